import PyProof.Rows.All
import Wide.All
import OpenK.AllK
import Wide.FinOn
import Lean
import PyProof.EqAt
import PyProof.EqKinds
import PyProof.TupleCall
import PyProof.Draws
import PySem.Challenge.RW_askhouse_k10_mixtures
set_option Elab.async false
set_option linter.all false
set_option maxRecDepth 100000
/-! THE HAND LAYER, for ints, bools, texts, own classes, LISTS and tuples (index, slices, in, append, pop ..), calls, loops. Paste it whole ahead of your own text; what your proof does not reach may be deleted. -/
namespace L2
open PySem PySem.Spec PyProof.Rows

/-- a key: an int or a str -/
abbrev Key := Sum Int Str
def keyIs : Key → Value → Bool
  | .inl k, v => Value.isInt k v
  | .inr x, v => Value.isStrOf x v
def keyH (w : World) : Key → Int
  | .inl k => hashInt k
  | .inr x => hashStr w x
theorem keyIs_shape : ∀ {k : Key} {v : Value}, keyIs k v = true → (∃ i t, k = Sum.inl i ∧ v = Value.int i t) ∨ (∃ x t, k = Sum.inr x ∧ v = Value.str x t)
  | .inl i, v, h => by
    obtain ⟨t, e⟩ := Value.isInt_shape (k := i) (v := v) h
    exact .inl ⟨i, t, rfl, e⟩
  | .inr x, v, h => by
    obtain ⟨t, e⟩ := Value.isStrOf_shape (x := x) (v := v) h
    exact .inr ⟨x, t, rfl, e⟩
theorem keyIs_int (i : Int) (t : Tok) : keyIs (.inl i) (.int i t) = true := by simp [keyIs, Value.isInt]
theorem keyIs_str (x : Str) (t : Tok) : keyIs (.inr x) (.str x t) = true := by simp [keyIs, Value.isStrOf]
theorem key_ll (a b : Int) : decide ((Sum.inl a : Key) = Sum.inl b) = (a == b) := by
  by_cases e : a = b
  · subst e; simp
  · have h : ¬ (Sum.inl a : Key) = Sum.inl b := fun q => e (Sum.inl.inj q)
    rw [decide_eq_false h]
    exact (beq_eq_false_iff_ne.mpr e).symm
theorem key_rr (a b : Str) : decide ((Sum.inr a : Key) = Sum.inr b) = decide (a = b) := by
  by_cases e : a = b
  · subst e; simp
  · have h : ¬ (Sum.inr a : Key) = Sum.inr b := fun q => e (Sum.inr.inj q)
    rw [decide_eq_false h, decide_eq_false e]
theorem key_lr (a : Int) (b : Str) : decide ((Sum.inl a : Key) = Sum.inr b) = false := decide_eq_false (fun q => nomatch q)
theorem key_rl (a : Str) (b : Int) : decide ((Sum.inr a : Key) = Sum.inl b) = false := decide_eq_false (fun q => nomatch q)

def mixKind (prog : Program) (w : World) : PySem.KeyKind prog w Key where
  is := keyIs
  hash := keyH w
  inj := fun v a b ha hb => by
    rcases keyIs_shape ha with ⟨i, t, rfl, rfl⟩ | ⟨x, t, rfl, rfl⟩
    · rcases keyIs_shape hb with ⟨j, u, rfl, e⟩ | ⟨y, u, rfl, e⟩
      · injection e with e1 _; rw [e1]
      · exact nomatch e
    · rcases keyIs_shape hb with ⟨j, u, rfl, e⟩ | ⟨y, u, rfl, e⟩
      · exact nomatch e
      · injection e with e1 _; rw [e1]
  byValue := fun k v h => by
    rcases keyIs_shape h with ⟨i, t, rfl, rfl⟩ | ⟨x, t, rfl, rfl⟩ <;> rfl
  pyHash := fun hv h => by
    rcases keyIs_shape hv with ⟨i, t, rfl, rfl⟩ | ⟨x, t, rfl, rfl⟩
    · exact wpAny_pyHash_int h
    · exact wpAny_pyHash_str h
  eqBool := fun hu hv h => by
    rcases keyIs_shape hu with ⟨i, t, rfl, rfl⟩ | ⟨x, t, rfl, rfl⟩
    · rcases keyIs_shape hv with ⟨j, u, rfl, rfl⟩ | ⟨y, u, rfl, rfl⟩
      · rw [key_ll] at h; exact wpAny_eqBool_int h
      · rw [key_lr] at h; exact SeqAt.EqAt.int_str i t y u _ _ _ _ h
    · rcases keyIs_shape hv with ⟨j, u, rfl, rfl⟩ | ⟨y, u, rfl, rfl⟩
      · rw [key_rl] at h; exact SeqAt.EqAt.str_int x t j u _ _ _ _ h
      · rw [key_rr] at h; exact wpAny_eqBool_str h
  «strs» := fun k x t v h => by
    rcases keyIs_shape h with ⟨i, u, rfl, e⟩ | ⟨y, u, rfl, e⟩
    · exact nomatch e
    · injection e with e1 _
      subst e1
      cases v <;> rfl

theorem mixKind_int (prog : Program) (w : World) (i : Int) (t : Tok) : (mixKind prog w).is (.inl i) (.int i t) = true := keyIs_int i t
theorem mixKind_str (prog : Program) (w : World) (x : Str) (t : Tok) : (mixKind prog w).is (.inr x) (.str x t) = true := keyIs_str x t
end L2

namespace L2
open PySem PySem.Spec PyProof.Rows

/-- a value, without the heap -/
inductive V where
  | non | bl (b : Bool) | int (i : Int) | str (x : Str) | byt (b : Array UInt8) | flt (b : UInt64) | ref (a : Addr) | ty (n : String)
  deriving DecidableEq

def RelV : V → Value → Prop
  | .non, u => u = Value.none
  | .bl b, u => u = Value.bool b
  | .int i, u => ∃ t, u = Value.int i t
  | .str x, u => ∃ t, u = Value.str x t
  | .byt b, u => ∃ t, u = Value.bytes b t
  | .flt b, u => ∃ t, u = Value.float b t
  | .ref a, u => u = Value.ref a
  | .ty n, u => u = Value.type n

abbrev Vals : List V → List Value → Prop := Paired RelV
theorem Vals.length {xs : List V} {us : List Value} (r : Vals xs us) : xs.length = us.length := Paired.length r
theorem Vals.get : ∀ {xs : List V} {us : List Value} {i : Nat} {x : V}, Vals xs us → xs[i]? = some x → ∃ u, us[i]? = some u ∧ RelV x u
  | _, _, _, _, .nil, e => by simp at e
  | _, _, 0, _, .cons r _, e => by simp at e; subst e; exact ⟨_, rfl, r⟩
  | _, _, i + 1, x, .cons _ t, e => by
    obtain ⟨u, h1, h2⟩ := Vals.get (i := i) (x := x) t (by simpa using e)
    exact ⟨u, by simpa using h1, h2⟩
theorem Vals.append : ∀ {xs ys : List V} {us ws : List Value}, Vals xs us → Vals ys ws → Vals (xs ++ ys) (us ++ ws)
  | _, _, _, _, .nil, s => s
  | _, _, _, _, .cons r t, s => .cons r (Vals.append t s)
def RelO : Option V → Option Value → Prop
  | some v, some u => RelV v u
  | none, none => True
  | _, _ => False
def KV {κ : Type} : List (κ × V) → List (κ × Value) → Prop := Paired fun (p : κ × V) (q : κ × Value) => p.1 = q.1 ∧ RelV p.2 q.2

/-- a key of a dict (00_mix): an int or a text -/
def kV : Key → V
  | .inl i => .int i
  | .inr x => .str x

/-- what stands at a tracked address -/
inductive HO where
  /-- a list -/
  | lst (xs : List V)
  /-- a tuple (never changes) -/
  | tup (xs : List V)
  /-- a dict whose keys are ints and texts; one whose keys are tuples of ints and texts (the empty one is both) -/
  | dK (kvs : List (Key × V)) | dT (kvs : List (List Key × V))
  /-- a set of ints: its members, its size -/
  | set (S : Int → Bool) (n : Nat)
  /-- an instance of the class at C, its dict at dx, its attributes -/
  | ins (C dx : Addr) (fs : List (Str × V))
  /-- the dict of the instance at x -/
  | own (x : Addr)
  /-- the dict of an exception -/
  | xd (fs : List (Str × V))
  /-- a bound method, f of x -/
  | met (f x : Addr)
  /-- a range object lo, lo + 1, .. below hi -/
  | rng (lo hi : Int)
  /-- a thing that is known to the object (the script; a dict while a loop walks it): read, never written while it is so -/
  | frz (o : Obj) (u : HO)
  /-- a code object's table -/
  | tbl (ps : Array Value)
  /-- any other thing, by what is true of its one object (a def of one's own: SetO a S n := HO.ext fun h => ..) -/
  | ext (φ : Heap → Prop)

abbrev Hp := Addr → Option HO
def upd (H : Hp) (a : Addr) (o : HO) : Hp := fun b => if b = a then some o else H b
theorem upd_same {H : Hp} {a : Addr} {o : HO} : upd H a o a = some o := by unfold upd; rw [if_pos rfl]
theorem upd_ne {H : Hp} {a b : Addr} {o : HO} (h : b ≠ a) : upd H a o b = H b := by unfold upd; rw [if_neg h]
theorem upd_upd {H : Hp} {a : Addr} {o u : HO} : upd (upd H a o) a u = upd H a u := by
  funext b; unfold upd; split <;> rfl
/-- two objects of different content stand apart -/
theorem ne_of {H : Hp} {a b : Addr} {o u : HO} (h : H a = some o) (h' : H b = some u) (d : o ≠ u) : a ≠ b := by
  intro e; subst e; rw [h] at h'; exact d (Option.some.inj h')
theorem ne_of_none {H : Hp} {a b : Addr} {o : HO} (h : H a = some o) (h' : H b = none) : a ≠ b := by
  intro e; subst e; rw [h] at h'; cases h'

section
variable (P : Program) (w : World)
def ObjOk (H : Hp) (h : Heap) (a : Addr) : HO → Prop
  | .lst xs => xs.length ≤ sizeLine ∧ ∃ (its : List Value) (n : Nat), Vals xs its ∧ h.get? a = some { cls := .type "list", data := .seq its.toArray n }
  | .tup xs => xs.length ≤ sizeLine ∧ ∃ its : List Value, Vals xs its ∧ IsTup h a its.toArray
  | .dK kvs => kvs.length ≤ sizeLine ∧ (a == sysModules) = false ∧ ∃ vs, KV kvs vs ∧ h.DictOf (mixKind P w) a vs
  | .dT kvs => kvs.length ≤ sizeLine ∧ (a == sysModules) = false ∧ ∃ xs : List (List Key × Addr × Value),
      Paired (fun (p : List Key × V) (q : List Key × Addr × Value) => p.1 = q.1 ∧ H q.2.1 = some (.tup (p.1.map kV)) ∧ RelV p.2 q.2.2) kvs xs ∧
      ∃ o es ep, h.get? a = some o ∧ o.ExactDict ∧ o.data = .dict es ep ∧ es.toList = xs.map (entryOfKey (tupleKind (mixKind P w))) ∧ (xs.map (·.1)).Nodup
  | .set S n => h.SetOf (intKind P w) a S n
  | .ins C dx fs => H dx = some (.own a) ∧ fs.length ≤ 1000 ∧ dx ≠ a ∧ h.get? a = some (PySem.W.instObj C dx) ∧
      ∃ mA, h.Ns1 dx mA ∧ (∀ f, RelO (fs.lookup f) (mA f)) ∧ PySem.Within mA (fs.map (·.1))
  | .own _ => ∃ o, h.get? a = some o
  | .xd fs => ∃ mA, h.Ns1 a mA ∧ ∀ f, RelO (fs.lookup f) (mA f)
  | .rng lo hi => ∃ t u v, h.get? a = some { cls := .type "range", data := .fields #[.int lo t, .int hi u, .int 1 v] }
  | .frz o u => h.get? a = some o ∧ ObjOk H h a u
  | .tbl ps => h.get? a = some { cls := .none, data := .fields ps }
  | .met f x => h.get? a = some (PySem.W.methodObj (.ref f) (.ref x))
  | .ext φ => φ h ∧ (∃ o, h.get? a = some o) ∧ ∀ h1 h2 : Heap, φ h1 → (∀ o, h1.get? a = some o → h2.get? a = some o) → φ h2
/-- the abstract heap is held -/
def HOk (H : Hp) (h : Heap) : Prop := ∀ a o, H a = some o → ObjOk P w H h a o
end

section
variable {P : Program} {w : World} {H H' : Hp} {h h' : Heap} {a : Addr} {o : HO}
theorem ObjOk.lt (x : ObjOk P w H h a o) : a < h.objs.size := by
  cases o with
  | lst xs => obtain ⟨_, _, _, _, e⟩ := x; exact Heap.lt_size e
  | tup xs => obtain ⟨_, _, _, p⟩ := x; exact p.lt
  | dK kvs => obtain ⟨_, _, _, _, o, _, _, e, _⟩ := x; exact Heap.lt_size e
  | dT kvs => obtain ⟨_, _, _, _, o, _, _, e, _⟩ := x; exact Heap.lt_size e
  | set S n => obtain ⟨o, _, _, _, e, _⟩ := x; exact Heap.lt_size e
  | ins C dx fs => obtain ⟨_, _, _, e, _⟩ := x; exact Heap.lt_size e
  | own y => obtain ⟨_, e⟩ := x; exact Heap.lt_size e
  | xd fs => obtain ⟨_, ⟨_, _, _, e, _⟩, _⟩ := x; exact Heap.lt_size e
  | rng lo hi => obtain ⟨_, _, _, e⟩ := x; exact Heap.lt_size e
  | frz ob u => obtain ⟨e, _⟩ := x; exact Heap.lt_size e
  | tbl ps => exact Heap.lt_size (show h.get? a = some _ from x)
  | met f y => exact Heap.lt_size (show h.get? a = some _ from x)
  | ext φ => obtain ⟨_, ⟨_, e⟩, _⟩ := x; exact Heap.lt_size e
theorem Paired.mapP {α β : Type} {F G : α → β → Prop} : ∀ {l₁ : List α} {l₂ : List β}, Paired F l₁ l₂ → (∀ a b, F a b → G a b) → Paired G l₁ l₂
  | _, _, .nil, _ => .nil
  | _, _, .cons r t, f => .cons (f _ _ r) (Paired.mapP t f)
/-- what an object's description leans on: its own object, its own dict, the tuples -/
theorem ObjOk.stay (x : ObjOk P w H h a o) (k : ∀ b u, (b = a ∨ H b = some (.own a)) → h.get? b = some u → h'.get? b = some u)
    (ho : ∀ b, H b = some (.own a) → H' b = some (.own a)) (ht : ∀ b xs, H b = some (.tup xs) → H' b = some (.tup xs)) : ObjOk P w H' h' a o := by
  induction o with
  | lst xs => obtain ⟨z, its, n, r, e⟩ := x; exact ⟨z, its, n, r, k _ _ (.inl rfl) e⟩
  | tup xs => obtain ⟨z, its, r, ob, e, c⟩ := x; exact ⟨z, its, r, ob, k _ _ (.inl rfl) e, c⟩
  | dK kvs => obtain ⟨z, y, vs, r, ob, es, ep, e, c⟩ := x; exact ⟨z, y, vs, r, ob, es, ep, k _ _ (.inl rfl) e, c⟩
  | dT kvs =>
    obtain ⟨z, y, xs, r, ob, es, ep, e, c⟩ := x
    exact ⟨z, y, xs, Paired.mapP r fun p q z => ⟨z.1, ht _ _ z.2.1, z.2.2⟩, ob, es, ep, k _ _ (.inl rfl) e, c⟩
  | set S n => obtain ⟨ob, es, ep, t, e, c⟩ := x; exact ⟨ob, es, ep, t, k _ _ (.inl rfl) e, c⟩
  | ins C dx fs =>
    obtain ⟨d, z, ne, e, mA, ⟨od, es, ep, e2, c⟩, r⟩ := x
    exact ⟨ho _ d, z, ne, k _ _ (.inl rfl) e, mA, ⟨od, es, ep, k _ _ (.inr d) e2, c⟩, r⟩
  | own y => obtain ⟨ob, e⟩ := x; exact ⟨ob, k _ _ (.inl rfl) e⟩
  | xd fs => obtain ⟨mA, ⟨od, es, ep, e, c⟩, r⟩ := x; exact ⟨mA, ⟨od, es, ep, k _ _ (.inl rfl) e, c⟩, r⟩
  | rng lo hi => obtain ⟨t, u, v, e⟩ := x; exact ⟨t, u, v, k _ _ (.inl rfl) e⟩
  | frz ob u ih => obtain ⟨e, q⟩ := x; exact ⟨k _ _ (.inl rfl) e, ih q⟩
  | tbl ps =>
    have e : h.get? a = some { cls := .none, data := .fields ps } := x
    show h'.get? a = some { cls := .none, data := .fields ps }
    exact k a _ (.inl rfl) e
  | met f y =>
    have e : h.get? a = some (PySem.W.methodObj (.ref f) (.ref y)) := x
    show h'.get? a = some (PySem.W.methodObj (.ref f) (.ref y))
    exact k a _ (.inl rfl) e
  | ext φ => obtain ⟨p, ⟨o, e⟩, st⟩ := x; exact ⟨st _ _ p fun o q => k _ _ (.inl rfl) q, ⟨o, k _ _ (.inl rfl) e⟩, st⟩
theorem HOk.lt (x : HOk P w H h) (e : H a = some o) : a < h.objs.size := (x a o e).lt
theorem HOk.fresh (x : HOk P w H h) (e : h.objs.size ≤ a) : H a = none := by
  cases q : H a with
  | none => rfl
  | some u => exact absurd (Nat.lt_of_lt_of_le (x.lt q) e) (Nat.lt_irrefl _)
/-- every object of the heap is kept -/
theorem HOk.kept (x : HOk P w H h) (k : ∀ b u, h.get? b = some u → h'.get? b = some u) : HOk P w H h' := fun a o e =>
  (x a o e).stay (fun b u _ q => k b u q) (fun _ q => q) fun _ _ q => q
/-- a new object is laid and tracked -/
theorem HOk.laid (x : HOk P w H h) (k : ∀ b u, h.get? b = some u → h'.get? b = some u) (hp : h.objs.size ≤ a) (new : ObjOk P w (upd H a o) h' a o) : HOk P w (upd H a o) h' := fun b u e => by
  have hn := x.fresh hp
  by_cases hb : b = a
  · subst hb; rw [upd_same] at e; cases e; exact new
  · rw [upd_ne hb] at e
    exact (x b u e).stay (fun c v _ q => k c v q) (fun c q => by rw [upd_ne (ne_of_none q hn)]; exact q) fun c xs q => by rw [upd_ne (ne_of_none q hn)]; exact q
end

/-- what may be read as u: it is u, or a known u -/
def Rd (H : Hp) (a : Addr) (u : HO) : Prop := H a = some u ∨ ∃ o, H a = some (.frz o u)
theorem Rd.ok {P : Program} {w : World} {H : Hp} {h : Heap} {a : Addr} {u : HO} (r : Rd H a u) (x : HOk P w H h) : ObjOk P w H h a u := by
  rcases r with r | ⟨o, r⟩
  · exact x a u r
  · obtain ⟨_, q⟩ := x a _ r
    exact q
/-- what may be written -/
def Mut : Option HO → Prop
  | some (.lst _) => True
  | some (.dK _) => True
  | some (.dT _) => True
  | some (.set _ _) => True
  | some (.ins _ _ _) => True
  | some (.ext _) => True
  | _ => False
section
variable {P : Program} {w : World} {H : Hp} {h h' : Heap} {x e : Addr} {o' : HO}
/-- the object at e is changed: x itself, or the dict of the instance x -/
theorem HOk.write (ok : HOk P w H h) (mu : Mut (H x)) (he : e = x ∨ H e = some (.own x)) (k : ∀ b u, b ≠ e → h.get? b = some u → h'.get? b = some u) (heo : ∃ u, h'.get? e = some u)
    (new : ObjOk P w (upd H x o') h' x o') : HOk P w (upd H x o') h' := fun b u q => by
  have nown : ∀ c y, H c = some (.own y) → c ≠ x := fun c y r z => by subst z; rw [r] at mu; exact mu
  have ntup : ∀ c xs, H c = some (.tup xs) → c ≠ x := fun c xs r z => by subst z; rw [r] at mu; exact mu
  by_cases hb : b = x
  · subst hb; rw [upd_same] at q; cases q; exact new
  · rw [upd_ne hb] at q
    by_cases hbe : b = e
    · have q' : H b = some (.own x) := by
        rcases he with z | z
        · exact absurd (hbe.trans z) hb
        · rw [hbe]; exact z
      rw [q] at q'; cases q'
      obtain ⟨v, hv⟩ := heo
      exact ⟨v, by rw [hbe]; exact hv⟩
    · refine (ok b u q).stay (fun c v hc r => k c v ?_ r) (fun c r => by rw [upd_ne (nown c b r)]; exact r) fun c xs r => by rw [upd_ne (ntup c xs r)]; exact r
      rcases hc with rfl | hc
      · exact hbe
      · rintro rfl
        rcases he with z | z
        · exact nown c b hc z
        · rw [hc] at z; cases z; exact hb rfl
end

/-! ### kept unless tracked; of the frames at fs (the callers') the slots may change (an exception that passes writes there); of the records at ex (iterators) nothing is said -/
structure Un (fs ex : List Addr) (H H' : Hp) (h h' : Heap) : Prop where
  keep : ∀ b o, h.get? b = some o → H b = none → b ∉ fs → b ∉ ex → h'.get? b = some o
  slot : ∀ b o, h.get? b = some o → H b = none → b ∈ fs → b ∉ ex → ∃ sl, h'.get? b = some { o with slots := sl }
  free : ∀ b o, h.get? b = some o → H b = none → b ∉ ex → H' b = none
  there : ∀ b o, h.get? b = some o → b ∉ ex → ∃ o', h'.get? b = some o'
  tups : ∀ b xs, H b = some (.tup xs) → H' b = some (.tup xs)
  frzs : ∀ b o u, H b = some (.frz o u) → H' b = some (.frz o u)
  tbls : ∀ b ps, H b = some (.tbl ps) → ∃ more, H' b = some (.tbl (ps ++ more))
section
variable {fs fs' ex ex' : List Addr} {H H1 H2 : Hp} {h h1 h2 h' : Heap} {a x e : Addr} {o : HO}
theorem Un.any (u : Un fs ex H H1 h h1) {b : Addr} {ob : Obj} (q : h.get? b = some ob) (n : H b = none) (hx : b ∉ ex) : ∃ sl, h1.get? b = some { ob with slots := sl } := by
  by_cases hb : b ∈ fs
  · exact u.slot b ob q n hb hx
  · exact ⟨ob.slots, u.keep b ob q n hb hx⟩
theorem Un.kept (k : ∀ b u, h.get? b = some u → h'.get? b = some u) : Un fs ex H H h h' :=
  ⟨fun b ob q _ _ _ => k b ob q, fun b ob q _ _ _ => ⟨ob.slots, k b ob q⟩, fun _ _ _ n _ => n, fun b ob q _ => ⟨ob, k b ob q⟩, fun _ _ q => q, fun _ _ _ q => q, fun _ ps q => ⟨#[], by rw [q]; simp⟩⟩
theorem Un.refl : Un fs ex H H h h := Un.kept fun _ _ q => q
theorem Un.laid (k : ∀ b u, h.get? b = some u → h'.get? b = some u) (hp : h.objs.size ≤ a) (hn : H a = none) : Un fs ex H (upd H a o) h h' where
  keep := fun b u q _ _ _ => k b u q
  slot := fun b u q _ _ _ => ⟨u.slots, k b u q⟩
  free := fun b u q n _ => by rw [upd_ne (Nat.ne_of_lt (Nat.lt_of_lt_of_le (Heap.lt_size q) hp))]; exact n
  there := fun b u q _ => ⟨u, k b u q⟩
  tups := fun b xs q => by rw [upd_ne (ne_of_none q hn)]; exact q
  frzs := fun b u xs q => by rw [upd_ne (ne_of_none q hn)]; exact q
  tbls := fun b ps q => ⟨#[], by rw [upd_ne (ne_of_none q hn), q]; simp⟩
theorem Un.write (mu : Mut (H x)) (he : e = x ∨ H e = some (.own x)) (k : ∀ b u, b ≠ e → h.get? b = some u → h'.get? b = some u) (heo : ∃ u, h'.get? e = some u) : Un fs ex H (upd H x o) h h' := by
  have hx : ∀ b, H b = none → b ≠ x := fun b n z => by subst z; rw [n] at mu; exact mu
  have hb : ∀ b, H b = none → b ≠ e := fun b n z => by
    subst z
    rcases he with r | r
    · exact hx b n r
    · rw [n] at r; cases r
  have hm : ∀ b u, H b = some u → ¬ Mut (some u) → b ≠ x := fun b u q nm z => by subst z; rw [q] at mu; exact nm mu
  refine ⟨fun b u q n _ _ => k b u (hb b n) q, fun b u q n _ _ => ⟨u.slots, k b u (hb b n) q⟩, fun b u q n _ => by rw [upd_ne (hx b n)]; exact n, fun b u q _ => ?_,
    fun b xs q => by rw [upd_ne (hm b _ q fun z => z)]; exact q, fun b u xs q => by rw [upd_ne (hm b _ q fun z => z)]; exact q, fun b ps q => ⟨#[], by rw [upd_ne (hm b _ q fun z => z), q]; simp⟩⟩
  by_cases hbe : b = e
  · subst hbe; exact heo
  · exact ⟨u, k b u hbe q⟩
end

/-! ### the heap without what is tracked -/
def trk (h : Heap) (H : Hp) : List Addr := (List.range h.objs.size).filter fun a => (H a).isSome
def hidT (h : Heap) (H : Hp) : Heap := PySem.W.hideAll h (trk h H)
theorem hidT_size (h : Heap) (H : Hp) : (hidT h H).objs.size = h.objs.size := PySem.W.hideAll_size _ _
theorem hidT_get {h : Heap} {H : Hp} {b : Addr} {o : Obj} (e : h.get? b = some o) (n : H b = none) : (hidT h H).get? b = some o :=
  PySem.W.hideAll_get _ e fun hm => by
    have q : (H b).isSome = true := (List.mem_filter.mp hm).2
    rw [n] at q; simp at q
theorem of_hidT {h : Heap} {H : Hp} {b : Addr} {o : Obj} (e : (hidT h H).get? b = some o) : h.get? b = some o ∧ H b = none := by
  have e' : h.get? b = some o := PySem.W.of_hideAll (trk h H) e
  refine ⟨e', ?_⟩
  cases q : H b with
  | none => rfl
  | some x =>
    have hm : b ∈ trk h H := List.mem_filter.mpr ⟨List.mem_range.mpr (Heap.lt_size e'), by simp [q]⟩
    have z : (hidT h H).get? b = none := PySem.W.hideAll_none (trk h H) hm
    rw [z] at e; cases e

/-! ### OpenK's ledger, filled with every new object but one -/
end L2

namespace L2
open PySem PySem.Spec PyProof.Rows

/-- the module's facts, over the base: the heap at the law's entry without what is tracked there -/
structure Mod (K : PySem.W.Frag) (mg : Str → Option Value) (base : Heap) : Prop where
  kin : K.In base
  glob : base.Ns mainGlobals mg
  blt : ∃ mb, base.Ns builtinsNs mb ∧ ∀ x : Str, x ≠ "__name__" → mb x = bootBuiltins x
  nolimit : base.NoLimit

/-- the context: a def's body (or a comprehension's block) running. base: fixed through the whole law; s₀, H₀: the entry; outer: the frames whose slots others may change (a def's callers); stack: all frames that run;
   ex: iterators that were made ahead of the entry and are walked here (a comprehension's); fn: the names whose cells were made at the entry (a def: all; a comprehension's block: its own); calm: not within an except suite; pn: pins that every state bears; xe: what is wanted of an exception that leaves the code -/
structure Cx where
  prog : Program
  w : World
  K : PySem.W.Frag
  mg : Str → Option Value
  base : Heap
  A : Around
  N : List Str
  s₀ : Shared
  H₀ : Hp
  env : Env
  outer : List Env
  stack : List Env
  ex : List Addr
  fn : Str → Bool
  calm : Bool
  pn : List (Addr × Obj)
  xe : Value → Shared → Prop
/-- the callers' frames -/
def frs (l : List Env) : List Addr := l.filterMap (·.frame)
abbrev Cx.fs (X : Cx) : List Addr := frs X.outer

def Vis (sc : Scope) (x : Str) : Prop := sc.names.lookup x = some .local ∨ sc.names.lookup x = some .cell ∨ sc.names.lookup x = some .free
def Loc (sc : Scope) (x : Str) : Prop := sc.names.lookup x = some .local ∨ sc.names.lookup x = some .cell
def Look (env : Env) (h : Heap) (m : Str → Option Value) (x : Str) (u : Value) : Prop :=
  (env.kindOf x = some .local ∧ m x = some u) ∨ ((env.kindOf x = some .cell ∨ env.kindOf x = some .free) ∧ ∃ c, env.cells.lookup x = some c ∧ h.IsCell c (some u))

structure Cx.Ok (X : Cx) : Prop where
  mod : Mod X.K X.mg X.base
  kind : X.env.scope.kind = .function
  glob : X.env.globals = mainGlobals
  blt : X.env.builtins = builtinsNs
  above : X.s₀.heap.objs.size ≤ X.env.locals
  inj : ∀ x y c, X.env.cells.lookup x = some c → X.env.cells.lookup y = some c → x = y
  has : ∀ x, (X.env.kindOf x = some .cell ∨ X.env.kindOf x = some .free) → ∃ c, X.env.cells.lookup x = some c
  cab : ∀ x c, X.fn x = true → X.env.cells.lookup x = some c → X.s₀.heap.objs.size ≤ c
  hd : X.calm = true → X.A.handled = none
  frames : X.A.frames = some X.stack
  stk : X.stack = X.outer ∨ (X.stack = X.env :: X.outer ∧ X.env.frame = some X.env.locals)
  exf : ∀ b ∈ X.ex, b ≠ X.env.locals ∧ ∀ x c, X.env.cells.lookup x = some c → c ≠ b
  bs : ∀ b o, X.base.get? b = some o → X.s₀.heap.get? b = some o ∧ X.H₀ b = none
  bsz : X.base.objs.size ≤ X.s₀.heap.objs.size
  noex : ∀ b o, X.base.get? b = some o → b ∉ X.ex
  exfs : ∀ b ∈ X.ex, b ∉ X.fs
  funs : X.s₀.heap.FunFrames X.base X.outer
  frf : ∀ b ∈ X.fs, X.H₀ b = none

structure Inv (X : Cx) (pins : List (Addr × Obj)) (σ : List (Option V)) (H : Hp) (s : Shared) : Prop where
  ok : X.Ok
  os : s.os = X.s₀.os
  bare : AllBare s.gens
  base : Un X.fs X.ex X.H₀ H X.s₀.heap s.heap
  loc : ∃ m, s.heap.Ns X.env.locals m ∧ ∀ (i : Nat) (x : Str) (v : V), X.N[i]? = some x → σ[i]? = some (some v) → Vis X.env.scope x → ∃ u, RelV v u ∧ Look X.env s.heap m x u
  cell : ∀ x c, X.env.cells.lookup x = some c → ∃ v, s.heap.IsCell c v
  free : H X.env.locals = none
  freeC : ∀ x c, X.env.cells.lookup x = some c → H c = none
  pin : ∀ p ∈ X.pn ++ pins, s.heap.get? p.1 = some p.2 ∧ H p.1 = none ∧ p.1 ≠ X.env.locals ∧ p.1 ∉ X.fs ∧ ∀ v, p.2.data ≠ .cell v
  hok : HOk X.prog X.w H s.heap
  len : σ.length = X.N.length

section
variable {X : Cx} {pins : List (Addr × Obj)} {σ : List (Option V)} {H H' : Hp} {s : Shared} {h' : Heap}

theorem Cx.Ok.nofr (ok : X.Ok) {b : Addr} {o : Obj} (e : X.base.get? b = some o) : b ∉ X.fs := fun hb => by
  have := (ok.funs.mem hb).1
  rw [e] at this; cases this
theorem Inv.bs (I : Inv X pins σ H s) : ∀ b o, X.base.get? b = some o → s.heap.get? b = some o ∧ H b = none := fun b o e =>
  ⟨I.base.keep b o (I.ok.bs b o e).1 (I.ok.bs b o e).2 (I.ok.nofr e) (I.ok.noex b o e), I.base.free b o (I.ok.bs b o e).1 (I.ok.bs b o e).2 (I.ok.noex b o e)⟩
theorem Inv.bk (I : Inv X pins σ H s) : ∀ b o, X.base.get? b = some o → s.heap.get? b = some o := fun b o e => (I.bs b o e).1
theorem Inv.mod (I : Inv X pins σ H s) : Mod X.K X.mg X.base := I.ok.mod
theorem Inv.kIn (I : Inv X pins σ H s) : X.K.In s.heap := I.ok.mod.kin.keeps I.bk
theorem Inv.lt (I : Inv X pins σ H s) : X.env.locals < s.heap.objs.size := let ⟨_, hn, _⟩ := I.loc; hn.lt
theorem Inv.sz (I : Inv X pins σ H s) : X.s₀.heap.objs.size ≤ s.heap.objs.size := Nat.le_trans I.ok.above (Nat.le_of_lt I.lt)
theorem Inv.nofs (I : Inv X pins σ H s) {a : Addr} (h : s.heap.objs.size ≤ a) : a ∉ X.fs := fun hb => by
  obtain ⟨_, o, ho, _⟩ := I.ok.funs.mem hb
  exact absurd (Nat.lt_of_lt_of_le (Heap.lt_size ho) (Nat.le_trans I.sz h)) (Nat.lt_irrefl _)
theorem Inv.cne (I : Inv X pins σ H s) : ∀ x c, X.env.cells.lookup x = some c → c ≠ X.env.locals := fun x c e z => by
  obtain ⟨v, o, ho, hd⟩ := I.cell x c e
  obtain ⟨m, ⟨o', es, ep, ho', hd', _⟩, _⟩ := I.loc
  rw [z, ho'] at ho; cases ho; rw [hd'] at hd; cases hd
theorem Inv.funs (I : Inv X pins σ H s) : s.heap.FunFrames X.base X.outer := by
  have all : ∀ (l : List Env), (∀ b ∈ frs l, b ∈ X.fs) → X.s₀.heap.FunFrames X.base l → s.heap.FunFrames X.base l := by
    intro l
    induction l with
    | nil => intro _ _; trivial
    | cons env r ih =>
      intro hs hl
      obtain ⟨hk, ⟨L, o, hf, hn, ho, hd⟩, hr⟩ := hl
      have hL : L ∈ X.fs := hs L (by unfold frs; rw [List.filterMap_cons, hf]; exact List.mem_cons_self)
      obtain ⟨sl, e⟩ := I.base.slot L o ho (I.ok.frf L hL) hL fun z => I.ok.exfs L z hL
      exact ⟨hk, ⟨L, _, hf, hn, e, hd⟩, ih (fun b hb => hs b (by unfold frs; rw [List.filterMap_cons, hf]; exact List.mem_cons_of_mem _ hb)) hr⟩
  exact all X.outer (fun _ hb => hb) I.ok.funs

/-- the frames that run, for a call -/
theorem Inv.stack (I : Inv X pins σ H s) : s.heap.FunFrames X.base X.stack := by
  rcases I.ok.stk with e | ⟨e, hf⟩
  · rw [e]; exact I.funs
  · rw [e]
    obtain ⟨m, hn, _⟩ := I.loc
    refine .cons (by rw [I.ok.kind]; decide) hf hn ?_ I.funs
    exact Heap.get?_none_of_le (Nat.le_trans I.ok.bsz I.ok.above)
theorem Inv.stkSub (I : Inv X pins σ H s) : ∀ b ∈ frs X.stack, b ∈ X.env.locals :: X.fs := fun b hb => by
  rcases I.ok.stk with e | ⟨e, hf⟩
  · rw [e] at hb; exact List.mem_cons_of_mem _ hb
  · rw [e] at hb
    unfold frs at hb
    rw [List.filterMap_cons, hf] at hb
    exact hb
theorem Inv.stkFree (I : Inv X pins σ H s) : ∀ b ∈ frs X.stack, H b = none := fun b hb => by
  rcases List.mem_cons.mp (I.stkSub b hb) with e | hb
  · rw [e]; exact I.free
  · obtain ⟨_, o, ho, _⟩ := I.ok.funs.mem hb
    exact I.base.free b o ho (I.ok.frf b hb) fun z => I.ok.exfs b z hb

/-- THE STEP: the untracked objects but the frame and the records at ch are kept (the callers' frames up to slots), the frame's map is kept, the new abstract heap is held -/
theorem Inv.step {g' : Array GenState} {t' : Nat} {d' : Drawn} {ch : List Addr} (I : Inv X pins σ H s)
    (hch : ∀ b ∈ ch, (b ∈ X.ex ∨ X.s₀.heap.objs.size ≤ b) ∧ b ≠ X.env.locals ∧ (∀ x c, X.env.cells.lookup x = some c → c ≠ b) ∧ ∀ p ∈ X.pn ++ pins, p.1 ≠ b)
    (keep : ∀ b o, b ≠ X.env.locals → b ∉ X.fs → b ∉ ch → s.heap.get? b = some o → H b = none → h'.get? b = some o)
    (slot : ∀ b o, b ≠ X.env.locals → b ∈ X.fs → b ∉ ch → s.heap.get? b = some o → H b = none → ∃ sl, h'.get? b = some { o with slots := sl }) (free : ∀ b o, b ∉ ch → s.heap.get? b = some o → H b = none → H' b = none)
    (there : ∀ b o, b ∉ ch → s.heap.get? b = some o → ∃ o', h'.get? b = some o')
    (tups : ∀ b xs, H b = some (.tup xs) → H' b = some (.tup xs)) (frzs : ∀ b o u, H b = some (.frz o u) → H' b = some (.frz o u)) (tbls : ∀ b ps, H b = some (.tbl ps) → ∃ more, H' b = some (.tbl (ps ++ more)))
    (ns : ∀ m, s.heap.Ns X.env.locals m → h'.Ns X.env.locals m) (hok : HOk X.prog X.w H' h') (hg : AllBare g') :
    Inv X pins σ H' { s with heap := h', gens := g', drawn := d', toks := t' } := by
  have neL : ∀ b o, X.s₀.heap.get? b = some o → b ≠ X.env.locals := fun b o e => Nat.ne_of_lt (Nat.lt_of_lt_of_le (Heap.lt_size e) I.ok.above)
  have neC : ∀ b o, X.s₀.heap.get? b = some o → b ∉ X.ex → b ∉ ch := fun b o e hx hb => by
    rcases (hch b hb).1 with z | z
    · exact hx z
    · exact absurd (Nat.lt_of_lt_of_le (Heap.lt_size e) z) (Nat.lt_irrefl _)
  have cellK : ∀ x c, X.env.cells.lookup x = some c → ∀ v, s.heap.IsCell c v → h'.IsCell c v := fun x c e v ⟨o, ho, hd⟩ => by
    have nch : c ∉ ch := fun z => (hch c z).2.2.1 x c e rfl
    by_cases hc : c ∈ X.fs
    · obtain ⟨sl, q⟩ := slot c o (I.cne x c e) hc nch ho (I.freeC x c e)
      exact ⟨_, q, hd⟩
    · exact ⟨o, keep c o (I.cne x c e) hc nch ho (I.freeC x c e), hd⟩
  refine ⟨I.ok, I.os, hg, ⟨fun b o e n hb hx => ?_, fun b o e n hb hx => ?_, fun b o e n hx => ?_, fun b o e hx => ?_, fun b xs e => tups b xs (I.base.tups b xs e), fun b o xs e => frzs b o xs (I.base.frzs b o xs e), fun b ps e => ?_⟩, ?_, fun x c e => ?_, ?_, fun x c e => ?_, fun p hp => ?_, hok, I.len⟩
  · exact keep b o (neL b o e) hb (neC b o e hx) (I.base.keep b o e n hb hx) (I.base.free b o e n hx)
  · obtain ⟨sl, e1⟩ := I.base.slot b o e n hb hx
    obtain ⟨sl', e2⟩ := slot b _ (neL b o e) hb (neC b o e hx) e1 (I.base.free b o e n hx)
    exact ⟨sl', e2⟩
  · obtain ⟨o', e1⟩ := I.base.there b o e hx
    exact free b o' (neC b o e hx) e1 (I.base.free b o e n hx)
  · obtain ⟨o', e1⟩ := I.base.there b o e hx
    exact there b o' (neC b o e hx) e1
  · obtain ⟨m1, e1⟩ := I.base.tbls b ps e
    obtain ⟨m2, e2⟩ := tbls b _ e1
    exact ⟨m1 ++ m2, by rw [e2, Array.append_assoc]⟩
  · obtain ⟨m, hn, hl⟩ := I.loc
    refine ⟨m, ns m hn, fun i x v e1 e2 e3 => ?_⟩
    obtain ⟨u, r, l⟩ := hl i x v e1 e2 e3
    refine ⟨u, r, ?_⟩
    rcases l with l | ⟨k, c, e, z⟩
    · exact .inl l
    · exact .inr ⟨k, c, e, cellK x c e _ z⟩
  · obtain ⟨v, z⟩ := I.cell x c e
    exact ⟨v, cellK x c e v z⟩
  · obtain ⟨m, ⟨o, _, _, ho, _⟩, _⟩ := I.loc
    exact free _ o (fun z => (hch _ z).2.1 rfl) ho I.free
  · obtain ⟨v, o, ho, hd⟩ := I.cell x c e
    exact free c o (fun z => (hch c z).2.2.1 x c e rfl) ho (I.freeC x c e)
  · obtain ⟨e, n, ne, nf, d⟩ := I.pin p hp
    have nch : p.1 ∉ ch := fun z => (hch p.1 z).2.2.2 p hp rfl
    exact ⟨keep p.1 p.2 ne nf nch e n, free p.1 p.2 nch e n, ne, nf, d⟩
/-- .. where the frame's own object is kept too -/
theorem Inv.un {t' : Nat} (I : Inv X pins σ H s) (u : Un X.fs [] H H' s.heap h') (hok : HOk X.prog X.w H' h') : Inv X pins σ H' { s with heap := h', toks := t' } := by
  obtain ⟨m, ⟨o, es, ep, ho, r⟩, _⟩ := id I.loc
  obtain ⟨sl, hL⟩ := u.any ho I.free (by simp)
  exact I.step (g' := s.gens) (d' := s.drawn) (ch := []) (fun _ z => nomatch z) (fun b o _ hb _ e n => u.keep b o e n hb (by simp)) (fun b o _ hb _ e n => u.slot b o e n hb (by simp)) (fun b o _ e n => u.free b o e n (by simp)) (fun b o _ e => u.there b o e (by simp)) u.tups u.frzs u.tbls (fun m' hm => by
    obtain ⟨o', es', ep', ho', r'⟩ := hm
    rw [ho] at ho'; cases ho'
    exact ⟨_, es', ep', hL, r'⟩) hok I.bare
/-- behind a call (or a comprehension's block): the slots of this frame may have changed too, the records at ch may have turned -/
theorem Inv.call {g' : Array GenState} {t' : Nat} {d' : Drawn} {ch : List Addr} (I : Inv X pins σ H s) (u : Un (frs X.stack) ch H H' s.heap h') (hok : HOk X.prog X.w H' h') (hg : AllBare g')
    (hch : ∀ b ∈ ch, (b ∈ X.ex ∨ X.s₀.heap.objs.size ≤ b) ∧ b ≠ X.env.locals ∧ (∀ x c, X.env.cells.lookup x = some c → c ≠ b) ∧ ∀ p ∈ X.pn ++ pins, p.1 ≠ b) :
    Inv X pins σ H' { s with heap := h', gens := g', drawn := d', toks := t' } := by
  obtain ⟨m, ⟨o, es, ep, ho, r⟩, _⟩ := id I.loc
  obtain ⟨sl, hL⟩ := u.any ho I.free fun z => (hch _ z).2.1 rfl
  exact I.step (ch := ch) hch (fun b o hL hb hc e n => u.keep b o e n (fun z => (List.mem_cons.mp (I.stkSub b z)).elim hL hb) hc) (fun b o _ _ hc e n => u.any e n hc) (fun b o hc e n => u.free b o e n hc) (fun b o hc e => u.there b o e hc) u.tups u.frzs u.tbls (fun m' hm => by
    obtain ⟨o', es', ep', ho', r'⟩ := hm
    rw [ho] at ho'; cases ho'
    exact ⟨_, es', ep', hL, r'⟩) hok hg
/-- an untracked record of ours (an iterator) has turned -/
theorem Inv.turned {t' : Nat} {it : Addr} (I : Inv X pins σ H s) (k : ∀ b o, b ≠ it → s.heap.get? b = some o → h'.get? b = some o) (hn : H it = none) (hL : it ≠ X.env.locals)
    (h1 : it ∈ X.ex ∨ X.s₀.heap.objs.size ≤ it) (h2 : ∀ x c, X.env.cells.lookup x = some c → c ≠ it) (h3 : ∀ p ∈ X.pn ++ pins, p.1 ≠ it) : Inv X pins σ H { s with heap := h', toks := t' } := by
  have nit : ∀ b u, H b = some u → b ≠ it := fun b u e z => by rw [z, hn] at e; cases e
  refine I.step (g' := s.gens) (d' := s.drawn) (ch := [it]) (fun b hb => ?_) (fun b o _ _ hc e _ => k b o (fun z => hc (by simp [z])) e) (fun b o _ _ hc e _ => ⟨o.slots, k b o (fun z => hc (by simp [z])) e⟩) (fun _ _ _ _ n => n)
    (fun b o hc e => ⟨o, k b o (fun z => hc (by simp [z])) e⟩) (fun _ _ e => e) (fun _ _ _ e => e) (fun b ps e => ⟨#[], by rw [e]; simp⟩) (fun m hm => ?_) (fun b u e => ?_) I.bare
  · have e : b = it := by simpa using hb
    subst e
    exact ⟨h1, hL, h2, h3⟩
  · obtain ⟨o, es, ep, ho, r⟩ := hm
    exact ⟨o, es, ep, k _ o (Ne.symm hL) ho, r⟩
  · refine (I.hok b u e).stay (fun c v hc q => k c v ?_ q) (fun _ q => q) fun _ _ q => q
    rcases hc with z | z
    · rw [z]; exact nit b u e
    · exact nit c _ z
theorem Inv.tok (I : Inv X pins σ H s) (t : Nat) : Inv X pins σ H { s with toks := t } := I.un (h' := s.heap) (t' := t) Un.refl I.hok
/-- all objects kept -/
theorem Inv.kept {t' : Nat} (I : Inv X pins σ H s) (k : ∀ b u, s.heap.get? b = some u → h'.get? b = some u) : Inv X pins σ H { s with heap := h', toks := t' } := I.un (Un.kept k) (I.hok.kept k)
/-- a new object laid and tracked -/
theorem Inv.laid {a : Addr} {o : HO} {t' : Nat} (I : Inv X pins σ H s) (k : ∀ b u, s.heap.get? b = some u → h'.get? b = some u) (hp : s.heap.objs.size ≤ a) (new : ObjOk X.prog X.w (upd H a o) h' a o) :
    Inv X pins σ (upd H a o) { s with heap := h', toks := t' } := I.un (Un.laid k hp (I.hok.fresh hp)) (I.hok.laid k hp new)
/-- an object written -/
theorem Inv.write {x e : Addr} {o : HO} {t' : Nat} (I : Inv X pins σ H s) (mu : Mut (H x)) (he : e = x ∨ H e = some (.own x)) (k : ∀ b u, b ≠ e → s.heap.get? b = some u → h'.get? b = some u) (heo : ∃ u, h'.get? e = some u)
    (new : ObjOk X.prog X.w (upd H x o) h' x o) : Inv X pins σ (upd H x o) { s with heap := h', toks := t' } := I.un (Un.write mu he k heo) (I.hok.write mu he k heo new)
/-- forgetting slots, pins -/
theorem Inv.weak {σ' : List (Option V)} (I : Inv X pins σ H s) (hl : σ'.length = σ.length) (w : ∀ (i : Nat) v, σ'[i]? = some (some v) → σ[i]? = some (some v)) : Inv X pins σ' H s :=
  ⟨I.ok, I.os, I.bare, I.base, let ⟨m, hn, hl'⟩ := I.loc; ⟨m, hn, fun i x v e1 e2 e3 => hl' i x v e1 (w i v e2) e3⟩, I.cell, I.free, I.freeC, I.pin, I.hok, hl.trans I.len⟩
theorem Inv.pins_of {pins' : List (Addr × Obj)} (I : Inv X pins σ H s) (h : ∀ p ∈ pins', s.heap.get? p.1 = some p.2 ∧ H p.1 = none ∧ p.1 ≠ X.env.locals ∧ p.1 ∉ X.fs ∧ ∀ v, p.2.data ≠ .cell v) : Inv X pins' σ H s :=
  ⟨I.ok, I.os, I.bare, I.base, I.loc, I.cell, I.free, I.freeC, fun p hp => (List.mem_append.mp hp).elim (fun z => I.pin p (List.mem_append_left _ z)) (h p), I.hok, I.len⟩

theorem nodup_ix {N : List Str} (hN : N.Nodup) {i j : Nat} {x : Str} (a : N[i]? = some x) (b : N[j]? = some x) : i = j := by
  obtain ⟨h1, e1⟩ := List.getElem?_eq_some_iff.mp a
  obtain ⟨h2, e2⟩ := List.getElem?_eq_some_iff.mp b
  exact (List.getElem_inj hN).mp (e1.trans e2.symm)

/-- a name is stored; what changed -/
theorem store_ok2 {M : Model} {A : Around} {E : Value → Shared → Prop} {i : Nat} {x : Str} {v : V} {u : Value} {Q : Unit → Shared → Prop} (I : Inv X pins σ H s) (hN : X.N.Nodup) (hi : X.N[i]? = some x) (hx : Loc X.env.scope x) (r : RelV v u)
    (h : ∀ s', Inv X pins (σ.set i (some v)) H s' → (∃ a, Heap.SameBut a s.heap s'.heap ∧ (a = X.env.locals ∨ X.env.cells.lookup x = some a)) → Q () s') (hf : X.fn x = true ∨ X.env.scope.names.lookup x = some .local := by first | exact .inl rfl | exact .inr rfl | assumption) : wpAny M A (storeName X.env x u) Q E s := by
  obtain ⟨m, hn, hl⟩ := id I.loc
  have hcls : (X.env.scope.kind == .class || (X.env.scope.kind == .module && X.env.locals != X.env.globals)) = false := by rw [I.ok.kind]; rfl
  have hiσ : i < σ.length := by rw [I.len]; exact (List.getElem?_eq_some_iff.mp hi).1
  have cne := I.cne
  have tracked : ∀ {a : Addr} {h' : Heap}, (∃ o, s.heap.get? a = some o ∧ H a = none) → Heap.SameBut a s.heap h' → HOk X.prog X.w H h' := fun {a h'} ha hs b ob e => by
    obtain ⟨_, _, hfree⟩ := ha
    refine (I.hok b ob e).stay (fun c w' hc q => (hs.2 c ?_).trans q) (fun _ q => q) fun _ _ q => q
    rintro rfl
    rcases hc with rfl | hc
    · rw [hfree] at e; cases e
    · rw [hfree] at hc; cases hc
  rcases hx with hk | hk
  · refine wpAny_storeName_local hk hn (fun h' hn' hs => ?_) hcls
    obtain ⟨oL, _, _, hoL, _⟩ := id hn
    refine h _ ⟨I.ok, I.os, I.bare, ⟨fun b o e n hb hx => ?_, fun b o e n hb hx => ?_, I.base.free, fun b o e hx => ?_, I.base.tups, I.base.frzs, I.base.tbls⟩, ⟨_, hn', fun j y v' e1 e2 e3 => ?_⟩, fun y c e => ?_, I.free, I.freeC, fun p hp => ?_, tracked ⟨oL, hoL, I.free⟩ hs, by simpa using I.len⟩ ⟨_, hs, .inl rfl⟩
    · exact (hs.2 b (Nat.ne_of_lt (Nat.lt_of_lt_of_le (Heap.lt_size e) I.ok.above))).trans (I.base.keep b o e n hb hx)
    · obtain ⟨sl, e1⟩ := I.base.slot b o e n hb hx
      exact ⟨sl, (hs.2 b (Nat.ne_of_lt (Nat.lt_of_lt_of_le (Heap.lt_size e) I.ok.above))).trans e1⟩
    · obtain ⟨o', e1⟩ := I.base.there b o e hx
      exact ⟨o', (hs.2 b (Nat.ne_of_lt (Nat.lt_of_lt_of_le (Heap.lt_size e) I.ok.above))).trans e1⟩
    · by_cases hj : j = i
      · subst hj
        rw [hi] at e1; cases e1
        rw [List.getElem?_set_self hiσ] at e2
        cases e2
        exact ⟨u, r, .inl ⟨hk, by simp⟩⟩
      · rw [List.getElem?_set_ne (Ne.symm hj)] at e2
        obtain ⟨u', r', q⟩ := hl j y v' e1 e2 e3
        refine ⟨u', r', ?_⟩
        rcases q with ⟨k, e⟩ | ⟨k, c, e, z⟩
        · refine .inl ⟨k, ?_⟩
          have : y ≠ x := fun e => hj (nodup_ix hN e1 (e ▸ hi))
          simp [this, e]
        · exact .inr ⟨k, c, e, z.sameBut hs (cne y c e)⟩
    · obtain ⟨w', z⟩ := I.cell y c e
      exact ⟨w', z.sameBut hs (cne y c e)⟩
    · obtain ⟨e, n, ne, nf, d⟩ := I.pin p hp
      exact ⟨(hs.2 p.1 ne).trans e, n, ne, nf, d⟩
  · have hfn : X.fn x = true := by
      rcases hf with z | z
      · exact z
      · rw [z] at hk; cases hk
    obtain ⟨c, hc⟩ := I.ok.has x (.inl hk)
    obtain ⟨w', z⟩ := I.cell x c hc
    refine wpAny_storeName_cell I.ok.kind hk hc z (fun h' hc' hs => ?_)
    obtain ⟨oc, hoc, hocd⟩ := id z
    refine h { s with heap := h' } ⟨I.ok, I.os, I.bare, ⟨fun b o e n hb hx => ?_, fun b o e n hb hx => ?_, I.base.free, fun b o e hx => ?_, I.base.tups, I.base.frzs, I.base.tbls⟩, ⟨m, hn.sameBut hs (Ne.symm (cne x c hc)), fun j y v' e1 e2 e3 => ?_⟩, fun y c' e => ?_, I.free, I.freeC, fun p hp => ?_, tracked ⟨oc, hoc, I.freeC x c hc⟩ hs, by simpa using I.len⟩ ⟨c, hs, .inr hc⟩
    · exact (hs.2 b (Nat.ne_of_lt (Nat.lt_of_lt_of_le (Heap.lt_size e) (I.ok.cab x c hfn hc)))).trans (I.base.keep b o e n hb hx)
    · obtain ⟨sl, e1⟩ := I.base.slot b o e n hb hx
      exact ⟨sl, (hs.2 b (Nat.ne_of_lt (Nat.lt_of_lt_of_le (Heap.lt_size e) (I.ok.cab x c hfn hc)))).trans e1⟩
    · obtain ⟨o', e1⟩ := I.base.there b o e hx
      exact ⟨o', (hs.2 b (Nat.ne_of_lt (Nat.lt_of_lt_of_le (Heap.lt_size e) (I.ok.cab x c hfn hc)))).trans e1⟩
    · by_cases hj : j = i
      · subst hj
        rw [hi] at e1; cases e1
        rw [List.getElem?_set_self hiσ] at e2
        cases e2
        exact ⟨u, r, .inr ⟨.inl hk, c, hc, hc'⟩⟩
      · rw [List.getElem?_set_ne (Ne.symm hj)] at e2
        obtain ⟨u', r', q⟩ := hl j y v' e1 e2 e3
        refine ⟨u', r', ?_⟩
        rcases q with q | ⟨k, c', e, z'⟩
        · exact .inl q
        · refine .inr ⟨k, c', e, z'.sameBut hs ?_⟩
          rintro rfl
          exact hj (nodup_ix hN e1 (I.ok.inj _ _ _ e hc ▸ hi))
    · by_cases hcc : c' = c
      · subst hcc; exact ⟨_, hc'⟩
      · obtain ⟨w2, z2⟩ := I.cell y c' e
        exact ⟨w2, z2.sameBut hs hcc⟩
    · obtain ⟨e, n, ne, nf, d⟩ := I.pin p hp
      refine ⟨(hs.2 p.1 ?_).trans e, n, ne, nf, d⟩
      intro q
      rw [q, hoc] at e
      have q' : oc = p.2 := Option.some.inj e
      exact d w' (by rw [← q']; exact hocd)
theorem store_ok {M : Model} {A : Around} {E : Value → Shared → Prop} {i : Nat} {x : Str} {v : V} {u : Value} {Q : Unit → Shared → Prop} (I : Inv X pins σ H s) (hN : X.N.Nodup) (hi : X.N[i]? = some x) (hx : Loc X.env.scope x) (r : RelV v u)
    (h : ∀ s', Inv X pins (σ.set i (some v)) H s' → Q () s') (hf : X.fn x = true ∨ X.env.scope.names.lookup x = some .local := by first | exact .inl rfl | exact .inr rfl | assumption) : wpAny M A (storeName X.env x u) Q E s :=
  store_ok2 I hN hi hx r (fun s' I' _ => h s' I') hf
/-- behind a call or a block, the state as it is -/
theorem Inv.call' {s' : Shared} {ch : List Addr} (I : Inv X pins σ H s) (ho : s'.os = s.os) (u : Un (frs X.stack) ch H H' s.heap s'.heap) (hok : HOk X.prog X.w H' s'.heap) (hg : AllBare s'.gens)
    (hch : ∀ b ∈ ch, (b ∈ X.ex ∨ X.s₀.heap.objs.size ≤ b) ∧ b ≠ X.env.locals ∧ (∀ x c, X.env.cells.lookup x = some c → c ≠ b) ∧ ∀ p ∈ X.pn ++ pins, p.1 ≠ b) : Inv X pins σ H' s' := by
  obtain ⟨h', g', d', t', o'⟩ := s'
  have e : o' = s.os := ho
  subst e
  exact I.call (g' := g') (t' := t') (d' := d') u hok hg hch
end

/-! ### the judgements -/
/-- an exception: its class, its own dict's address (where it has one), the abstract heap behind it -/
abbrev XK := Value → Option Addr → Hp → Prop
abbrev St := List (Option V)
abbrev VK := V → Hp → Prop
/-- an expression's reading; a test's; an argument list's -/
abbrev TE := St → Hp → VK → Prop
abbrev TT := St → Hp → (Bool → Hp → Prop) → Prop
abbrev TA := St → Hp → (List V → Hp → Prop) → Prop
/-- what is wanted behind a statement -/
structure Ends where
  nx : St → Hp → Prop
  rt : VK
  bk : St → Hp → Prop := fun _ _ => False
  ct : St → Hp → Prop := fun _ _ => False
abbrev TS := Ends → St → Hp → Prop

def EP (X : Cx) (pins : List (Addr × Obj)) (σ : St) (Q : VK) (u : Value) (s' : Shared) : Prop := ∃ v H', Inv X pins σ H' s' ∧ RelV v u ∧ Q v H'
def TP (X : Cx) (pins : List (Addr × Obj)) (σ : St) (Q : Bool → Hp → Prop) (b : Bool) (s' : Shared) : Prop := ∃ H', Inv X pins σ H' s' ∧ Q b H'
def AP (X : Cx) (pins : List (Addr × Obj)) (σ : St) (Q : List V → Hp → Prop) (us : List Value) (s' : Shared) : Prop := ∃ vs H', Inv X pins σ H' s' ∧ Vals vs us ∧ Q vs H'
def SP (X : Cx) (pins : List (Addr × Obj)) (D : Ends) (f : Flow) (s' : Shared) : Prop :=
  match f with
  | .next => ∃ σ' H', Inv X pins σ' H' s' ∧ D.nx σ' H'
  | .brk => ∃ σ' H', Inv X pins σ' H' s' ∧ D.bk σ' H'
  | .cont => ∃ σ' H', Inv X pins σ' H' s' ∧ D.ct σ' H'
  | .ret u => ∃ v σ' H', Inv X pins σ' H' s' ∧ RelV v u ∧ D.rt v H'

def PE (X : Cx) (e : Expr) (t : TE) : Prop :=
  ∀ (pins : List (Addr × Obj)) (s : Shared) (σ : St) (H : Hp) (Q : VK), Inv X pins σ H s → t σ H Q → wpAny (model X.prog X.w) X.A (eval e X.env) (EP X pins σ Q) X.xe s
def PT (X : Cx) (e : Expr) (t : TT) : Prop :=
  ∀ (pins : List (Addr × Obj)) (s : Shared) (σ : St) (H : Hp) (Q : Bool → Hp → Prop), Inv X pins σ H s → t σ H Q → wpAny (model X.prog X.w) X.A (isTrue e X.env (eval e X.env)) (TP X pins σ Q) X.xe s
/-- a test whatever its 'whole' is (and, or) -/
def PW (X : Cx) (e : Expr) (t : TT) : Prop :=
  ∀ (whole : Sem Value) (pins : List (Addr × Obj)) (s : Shared) (σ : St) (H : Hp) (Q : Bool → Hp → Prop), Inv X pins σ H s → t σ H Q → wpAny (model X.prog X.w) X.A (isTrue e X.env whole) (TP X pins σ Q) X.xe s
theorem PW.pt {X : Cx} {e : Expr} {t : TT} (h : PW X e t) : PT X e t := h _
/-- an argument list (no star), from the left -/
def PA (X : Cx) (es : List Expr) (t : TA) : Prop :=
  ∀ (pos : Pos) (pins : List (Addr × Obj)) (s : Shared) (σ : St) (H : Hp) (Q : List V → Hp → Prop), Inv X pins σ H s → t σ H Q → wpAny (model X.prog X.w) X.A (spliced (backTo pos (starEach es X.env))) (AP X pins σ Q) X.xe s
def PS (X : Cx) (st : Stmt) (t : TS) : Prop :=
  ∀ (pins : List (Addr × Obj)) (s : Shared) (σ : St) (H : Hp) (D : Ends), Inv X pins σ H s → t D σ H → wpAny (model X.prog X.w) X.A (exec st X.env) (SP X pins D) X.xe s
def PSs (X : Cx) (st : List Stmt) (t : TS) : Prop :=
  ∀ (pins : List (Addr × Obj)) (s : Shared) (σ : St) (H : Hp) (D : Ends), Inv X pins σ H s → t D σ H → wpAny (model X.prog X.w) X.A (execs st X.env) (SP X pins D) X.xe s
/-- weaken the end -/
theorem thn {α : Type} {t : Sem α} {Q Q' : α → Shared → Prop} {M : Model} {A : Around} {E : Value → Shared → Prop} {s : Shared} (h : wpAny M A t Q E s) (hQ : ∀ a s, Q a s → Q' a s) : wpAny M A t Q' E s := wpAny_mono h hQ fun _ _ x => x
end L2

namespace L2
open PySem PySem.Spec PyProof.Rows
section
variable {X : Cx}

/-! ### names and constants -/
def tVar (i : Nat) : TE := fun σ H Q => ∃ v, σ[i]? = some (some v) ∧ Q v H
def tC (v : V) : TE := fun _ H Q => Q v H
theorem pe_var {i : Nat} {x : Str} {pos : Pos} (hN : X.N[i]? = some x) (hv : Vis X.env.scope x) (hd : (x == ("__debug__" : Str)) = false := by decide) (hcd : (x == ("__classdict__" : Str)) = false := by decide) : PE X (.Name x pos) (tVar i) := by
  intro pins s σ H Q I h
  obtain ⟨v, e, h⟩ := h
  obtain ⟨m, hn, hl⟩ := I.loc
  obtain ⟨u, r, l⟩ := hl i x v hN e hv
  have fin : EP X pins σ Q u s := ⟨v, H, I, r, h⟩
  rcases l with ⟨hk, hm⟩ | ⟨hk, c, hc, hcell⟩
  · exact wpAny_Name (wpAny_loadName_local I.ok.kind hk hn hm fin) hd
  · rcases hk with hk | hk
    · exact wpAny_Name (wpAny_loadName_cell I.ok.kind hk hc hcell fin) hd
    · exact wpAny_Name (wpAny_loadName_free I.ok.kind hk hc hcell fin hcd) hd
theorem pe_int {i j pos} : PE X (.Constant (.int i) j pos) (tC (.int i)) := fun _ _ _ H _ I h => wpAny_Constant_int ⟨.int i, H, I.tok _, ⟨_, rfl⟩, h⟩
theorem pe_bl {b j pos} : PE X (.Constant (.bool b) j pos) (tC (.bl b)) := fun _ _ _ H _ I h => Constant_bool ⟨.bl b, H, I, rfl, h⟩
theorem pe_str {x j pos} : PE X (.Constant (.str x) j pos) (tC (.str x)) := fun _ _ _ H _ I h => Calls.Constant_str ⟨.str x, H, I.tok _, ⟨_, rfl⟩, h⟩

/-- a global name of the def -/
def Gl (X : Cx) (x : Str) : Prop := X.env.kindOf x = some .globalImplicit
theorem ld_glob {E : Value → Shared → Prop} {pins : List (Addr × Obj)} {s : Shared} {σ : St} {H : Hp} {x : Str} {u : Value} {pos : Pos} {Q : Value → Shared → Prop} (I : Inv X pins σ H s) (hg : Gl X x) (hm : X.mg x = some u) (h : Q u s)
    (hd : (x == ("__debug__" : Str)) = false := by decide) : wpAny (model X.prog X.w) X.A (eval (.Name x pos) X.env) Q E s :=
  Calls.Name_function_global I.ok.kind hg (Calls.loadGlobal_global (by rw [I.ok.glob]; exact I.mod.glob.keeps I.bk) hm h) hd
theorem ld_blt {E : Value → Shared → Prop} {pins : List (Addr × Obj)} {s : Shared} {σ : St} {H : Hp} {x : Str} {u : Value} {pos : Pos} {Q : Value → Shared → Prop} (I : Inv X pins σ H s) (hg : Gl X x) (hm : X.mg x = none) (hv : bootBuiltins x = some u) (h : Q u s)
    (hn : x ≠ "__name__" := by decide) (hd : (x == ("__debug__" : Str)) = false := by decide) : wpAny (model X.prog X.w) X.A (eval (.Name x pos) X.env) Q E s := by
  obtain ⟨mb, h1, h2⟩ := I.mod.blt
  exact Calls.Name_function_global I.ok.kind hg (Calls.loadGlobal_builtin (by rw [I.ok.glob]; exact I.mod.glob.keeps I.bk) hm (by rw [I.ok.blt]; exact h1.keeps I.bk) ((h2 x hn).trans hv) h) hd
/-- a module's constant, a class, a function, as a value -/
theorem pe_glob {x : Str} {v : V} {u : Value} {pos : Pos} (hg : Gl X x) (hm : X.mg x = some u) (r : RelV v u) (hd : (x == ("__debug__" : Str)) = false := by decide) : PE X (.Name x pos) (tC v) :=
  fun _ _ _ H _ I h => ld_glob I hg hm ⟨v, H, I, r, h⟩ hd
theorem pe_bltn {x : Str} {v : V} {u : Value} {pos : Pos} (hg : Gl X x) (hm : X.mg x = none) (hv : bootBuiltins x = some u) (r : RelV v u) (hn : x ≠ "__name__" := by decide) (hd : (x == ("__debug__" : Str)) = false := by decide) : PE X (.Name x pos) (tC v) :=
  fun _ _ _ H _ I h => ld_blt I hg hm hv ⟨v, H, I, r, h⟩ hn hd

/-! ### arithmetic -/
variable {a b : Expr} {ta tb : TE} {pos : Pos}
/-! ### comparisons -/
def PC (X : Cx) (op : CmpOp) (a b : Expr) (t : TE) : Prop :=
  ∀ (pins : List (Addr × Obj)) (s : Shared) (σ : St) (H : Hp) (Q : VK), Inv X pins σ H s → t σ H Q →
    wpAny (model X.prog X.w) X.A (eval a X.env) (fun v s₁ => wpAny (model X.prog X.w) X.A (eval b X.env) (fun u s₂ => wpAny (model X.prog X.w) X.A (compareOp op v u) (EP X pins σ Q) X.xe s₂) X.xe s₁) X.xe s
/-- a comparison as a value, as a test -/
def tB (t : TE) : TT := fun σ H Q => t σ H fun x H1 => ∃ c, x = .bl c ∧ Q c H1
theorem pt_cmp {op : CmpOp} {t : TE} (h : PC X op a b t) (h1 : behindInMarks op b = false := by first | exact nobehind _ (by decide) (by decide) | rfl) : PT X (.Compare a [op] [b] pos) (tB t) := by
  intro pins s σ H Q I hw
  refine wpAny_isTrue_Compare1 (thn (h pins s σ H _ I hw) fun v s1 h1 => thn h1 fun u s2 h2 => thn h2 fun c s3 ⟨x, H1, I1, r1, q1⟩ => ?_) h1
  obtain ⟨d, rfl, q⟩ := q1
  cases r1
  exact wpAny_truthy_bool ⟨H1, I1, q⟩
/-- an expression whose value is a bool, as a test -/
theorem pt_val {e : Expr} {t : TE} (h : PE X e t) (he : ∀ whole, isTrue e X.env whole = (do let v ← whole; standAt e.pos; holding [v] (truthy v)) := by intro _; rfl) : PT X e (tB t) := by
  intro pins s σ H Q I hw
  refine isTrue_plain (thn (h pins s σ H _ I hw) fun v s1 ⟨x, H1, I1, r1, q1⟩ => ?_) (he _)
  obtain ⟨d, rfl, q⟩ := q1
  cases r1
  exact wpAny_truthy_bool ⟨H1, I1, q⟩

/-! ### and, or, not -/
variable {tA tB' : TT} {rest : List Expr}
def tOr (t u : TT) : TT := fun σ H Q => t σ H fun c H1 => if c = true then Q true H1 else u σ H1 Q
def tNot (t : TT) : TT := fun σ H Q => t σ H fun c H1 => Q (!c) H1
theorem pw_or1 (ha : PT X a tA) : PW X (.BoolOp .Or [a] pos) tA := by
  intro wh pins s σ H Q I h
  refine isTrue_or (thn (ha pins s σ H Q I h) fun c s1 e => ?_)
  cases c with
  | false => exact isTrue_or_nil e
  | true => exact e
theorem pw_or (ha : PT X a tA) (hb : PW X (.BoolOp .Or (b :: rest) pos) tB') : PW X (.BoolOp .Or (a :: b :: rest) pos) (tOr tA tB') := by
  intro wh pins s σ H Q I h
  refine isTrue_or (thn (ha pins s σ H _ I h) fun c s1 ⟨H1, I1, q1⟩ => ?_)
  cases c with
  | true => exact ⟨H1, I1, q1⟩
  | false => exact hb wh pins s1 σ H1 Q I1 q1
theorem pt_not (ha : PT X a tA) : PT X (.UnaryOp .Not a pos) (tNot tA) := by
  intro pins s σ H Q I h
  exact isTrue_not (ha pins s σ H (fun c H1 => Q (!c) H1) I h)
/-- .. as values (bools) -/
def tAndV (ta tb : TE) : TE := fun σ H Q => ta σ H fun x H1 => ∃ c, x = .bl c ∧ if c = true then tb σ H1 Q else Q (.bl false) H1
def tNotV (ta : TE) : TE := fun σ H Q => ta σ H fun x H1 => ∃ c, x = .bl c ∧ Q (.bl (!c)) H1
theorem pe_one {op} {t : TE} (h : PE X a t) : PE X (.BoolOp op [a] pos) t := fun pins s σ H Q I hw => BoolOp_one (h pins s σ H Q I hw)
theorem pe_and (ha : PE X a ta) (hb : PE X (.BoolOp .And (b :: rest) pos) tb) : PE X (.BoolOp .And (a :: b :: rest) pos) (tAndV ta tb) := by
  intro pins s σ H Q I h
  refine BoolOp_and (thn (ha pins s σ H _ I h) fun v s1 ⟨x, H1, I1, r1, q1⟩ => ?_)
  obtain ⟨c, rfl, q1⟩ := q1
  cases r1
  refine wpAny_truthy_bool ?_
  cases c with
  | true => exact hb pins s1 σ H1 Q I1 q1
  | false => exact ⟨.bl false, H1, I1, rfl, q1⟩
theorem pe_not (ha : PE X a ta) : PE X (.UnaryOp .Not a pos) (tNotV ta) := by
  intro pins s σ H Q I h
  refine UnaryOp_ (thn (ha pins s σ H _ I h) fun v s1 ⟨x, H1, I1, r1, q1⟩ => ?_)
  obtain ⟨c, rfl, q1⟩ := q1
  cases r1
  exact not_of (wpAny_truthy_bool ⟨.bl (!c), H1, I1, rfl, q1⟩)
/-- a if t else b -/
def tIf (t : TT) (ta tb : TE) : TE := fun σ H Q => t σ H fun c H1 => if c = true then ta σ H1 Q else tb σ H1 Q
theorem pe_ifExp {c : Expr} (hc : PT X c tA) (ha : PE X a ta) (hb : PE X b tb) : PE X (.IfExp c a b pos) (tIf tA ta tb) := by
  intro pins s σ H Q I h
  refine wpAny_IfExp (thn (hc pins s σ H _ I h) fun d s1 ⟨H1, I1, q1⟩ => ?_)
  cases d with
  | true => exact ha pins s1 σ H1 Q I1 q1
  | false => exact hb pins s1 σ H1 Q I1 q1
end
end L2

namespace L2
open PySem PySem.Spec PyProof.Rows

/-! ### a list, a tuple that is read: tracked, frozen, or an object of the module -/
def SqL (K : PySem.W.Frag) (H : Hp) (a : Addr) (xs : List V) : Prop :=
  Rd H a (.lst xs) ∨
    ∃ (o : Obj) (its : Array Value) (n : Nat), K.lookup a = some o ∧ o.cls = .type "list" ∧ o.dict = none ∧ o.data = .seq its n ∧ its.size ≤ sizeLine ∧ Vals xs its.toList
def SqT (K : PySem.W.Frag) (H : Hp) (a : Addr) (xs : List V) : Prop :=
  Rd H a (.tup xs) ∨
    ∃ (o : Obj) (its : Array Value) (n : Nat), K.lookup a = some o ∧ o.cls = .type "tuple" ∧ o.data = .seq its n ∧ its.size ≤ sizeLine ∧ Vals xs its.toList
def absV : Value → Option V
  | .none => some .non
  | .bool b => some (.bl b)
  | .int i _ => some (.int i)
  | .str x _ => some (.str x)
  | .bytes b _ => some (.byt b)
  | .float b _ => some (.flt b)
  | .ref a => some (.ref a)
  | .type n => some (.ty n)
  | _ => none
theorem RelV.abs {x : V} {u : Value} (r : RelV x u) : absV u = some x := by
  cases x with
  | non => cases r; rfl
  | bl _ => cases r; rfl
  | int _ => obtain ⟨t, rfl⟩ := r; rfl
  | str _ => obtain ⟨t, rfl⟩ := r; rfl
  | byt _ => obtain ⟨t, rfl⟩ := r; rfl
  | flt _ => obtain ⟨t, rfl⟩ := r; rfl
  | ref _ => cases r; rfl
  | ty _ => cases r; rfl
theorem RelV.inj {x y : V} {u : Value} (r : RelV x u) (q : RelV y u) : x = y := Option.some.inj (r.abs.symm.trans q.abs)
theorem Vals.inj : ∀ {xs ys : List V} {us : List Value}, Vals xs us → Vals ys us → xs = ys
  | _, _, _, .nil, .nil => rfl
  | _, _, _, .cons r t, .cons r' t' => by rw [r.inj r', Vals.inj t t']
section
variable {X : Cx} {pins : List (Addr × Obj)} {σ : St} {H : Hp} {s : Shared} {a : Addr} {xs ys : List V}
theorem SqL.of {K : PySem.W.Frag} (h : H a = some (.lst xs)) : SqL K H a xs := .inl (.inl h)
theorem SqT.of {K : PySem.W.Frag} (h : H a = some (.tup xs)) : SqT K H a xs := .inl (.inl h)
theorem Inv.list (I : Inv X pins σ H s) (h : SqL X.K H a xs) : ∃ its : List Value, Vals xs its ∧ PlainL s.heap a its.toArray ∧ xs.length ≤ sizeLine := by
  rcases h with h | ⟨o, its, n, hk, hc, hd, hs, hz, r⟩
  · obtain ⟨z, its, n, r, e⟩ := h.ok I.hok
    exact ⟨its, r, ⟨_, n, e, rfl, rfl, rfl⟩, z⟩
  · refine ⟨its.toList, r, ⟨o, n, I.kIn a o hk, hc, hd, by simpa using hs⟩, ?_⟩
    have e := r.length
    simp only [Array.length_toList] at e
    omega
theorem Inv.tuple (I : Inv X pins σ H s) (h : SqT X.K H a xs) : ∃ its : List Value, Vals xs its ∧ IsTup s.heap a its.toArray ∧ xs.length ≤ sizeLine := by
  rcases h with h | ⟨o, its, n, hk, hc, hs, hz, r⟩
  · obtain ⟨z, its, r, p⟩ := h.ok I.hok
    exact ⟨its, r, p, z⟩
  · refine ⟨its.toList, r, ⟨o, I.kIn a o hk, hc, n, by simpa using hs⟩, ?_⟩
    have e := r.length
    simp only [Array.length_toList] at e
    omega
theorem Inv.list_inj (I : Inv X pins σ H s) (h : SqL X.K H a xs) (h' : SqL X.K H a ys) : xs = ys := by
  obtain ⟨its, r, ⟨o, n, e, _, _, d⟩, _⟩ := I.list h
  obtain ⟨its', r', ⟨o', n', e', _, _, d'⟩, _⟩ := I.list h'
  rw [e] at e'; cases e'
  rw [d] at d'
  injection d' with d1 _
  have : its = its' := by simpa using congrArg Array.toList d1
  subst this
  exact r.inj r'
theorem Inv.tuple_inj (I : Inv X pins σ H s) (h : SqT X.K H a xs) (h' : SqT X.K H a ys) : xs = ys := by
  obtain ⟨its, r, ⟨o, e, _, n, d⟩, _⟩ := I.tuple h
  obtain ⟨its', r', ⟨o', e', _, n', d'⟩, _⟩ := I.tuple h'
  rw [e] at e'; cases e'
  rw [d] at d'
  injection d' with d1 _
  have : its = its' := by simpa using congrArg Array.toList d1
  subst this
  exact r.inj r'
end

/-! ### another wish about exceptions -/
abbrev Cx.wish (X : Cx) (E : Value → Shared → Prop) : Cx := { X with xe := E }
/-- no exception leaves -/
abbrev Cx.nox (X : Cx) : Cx := X.wish fun _ _ => False
theorem Cx.Ok.wish {X : Cx} (ok : X.Ok) (E : Value → Shared → Prop) : (X.wish E).Ok :=
  ⟨ok.mod, ok.kind, ok.glob, ok.blt, ok.above, ok.inj, ok.has, ok.cab, ok.hd, ok.frames, ok.stk, ok.exf, ok.bs, ok.bsz, ok.noex, ok.exfs, ok.funs, ok.frf⟩
theorem Cx.Ok.unwish {X : Cx} {E : Value → Shared → Prop} (ok : (X.wish E).Ok) : X.Ok :=
  ⟨ok.mod, ok.kind, ok.glob, ok.blt, ok.above, ok.inj, ok.has, ok.cab, ok.hd, ok.frames, ok.stk, ok.exf, ok.bs, ok.bsz, ok.noex, ok.exfs, ok.funs, ok.frf⟩
section
variable {X : Cx} {pins : List (Addr × Obj)} {σ : St} {H : Hp} {s : Shared} {E : Value → Shared → Prop}
theorem Inv.wish (I : Inv X pins σ H s) (E : Value → Shared → Prop) : Inv (X.wish E) pins σ H s := ⟨I.ok.wish E, I.os, I.bare, I.base, I.loc, I.cell, I.free, I.freeC, I.pin, I.hok, I.len⟩
theorem Inv.unwish (I : Inv (X.wish E) pins σ H s) : Inv X pins σ H s := ⟨I.ok.unwish, I.os, I.bare, I.base, I.loc, I.cell, I.free, I.freeC, I.pin, I.hok, I.len⟩
theorem SP.unwish {D : Ends} {f : Flow} {s' : Shared} (h : SP (X.wish E) pins D f s') : SP X pins D f s' := by
  cases f with
  | next => obtain ⟨σ', H', I, q⟩ := h; exact ⟨σ', H', I.unwish, q⟩
  | brk => obtain ⟨σ', H', I, q⟩ := h; exact ⟨σ', H', I.unwish, q⟩
  | cont => obtain ⟨σ', H', I, q⟩ := h; exact ⟨σ', H', I.unwish, q⟩
  | ret u => obtain ⟨v, σ', H', I, r, q⟩ := h; exact ⟨v, σ', H', I.unwish, r, q⟩
theorem PSs.nox {st : List Stmt} {t : TS} (h : PSs X.nox st t) : PSs X st t := fun pins s σ H D I hw =>
  wpAny_mono (h pins s σ H D (I.wish _) hw) (fun _ _ q => q.unwish) fun _ _ z => False.elim z
end

/-! ### blocks and small statements -/
section
variable {X : Cx} {st : Stmt} {rest : List Stmt} {t u : TS} {e : Expr} {te : TE} {pos : Pos}
def tNext : TS := fun D σ H => D.nx σ H
def tSeq (t u : TS) : TS := fun D σ H => t { D with nx := u D } σ H
theorem pss_nil : PSs X [] tNext := fun _ _ σ H _ I h => wpAny_execs_nil ⟨σ, H, I, h⟩
theorem pss_cons (h1 : PS X st t) (h2 : PSs X rest u) : PSs X (st :: rest) (tSeq t u) := by
  intro pins s σ H D I h
  refine wpAny_execs_cons (thn (h1 pins s σ H { D with nx := u D } I h) fun f s1 q => ?_)
  cases f with
  | next =>
    obtain ⟨σ', H', I', q⟩ := q
    exact h2 pins s1 σ' H' D I' q
  | ret v => exact q
  | brk => exact q
  | cont => exact q
theorem pss_one (h1 : PS X st t) : PSs X [st] t := by
  intro pins s σ H D I h
  refine wpAny_execs_cons (thn (h1 pins s σ H D I h) fun f s1 q => ?_)
  cases f with
  | next => exact wpAny_execs_nil q
  | ret v => exact q
  | brk => exact q
  | cont => exact q
/-- in a def's body nothing is shown -/
theorem Inv.quiet {pins : List (Addr × Obj)} {σ : St} {H : Hp} {s : Shared} (I : Inv X pins σ H s) : interactive X.env = false := by simp [interactive, I.ok.kind]
/-- an expression whose value is dropped -/
def tDrop (te : TE) : TS := fun D σ H => te σ H fun _ H1 => D.nx σ H1
theorem ps_expr (he : PE X e te) (hs : swapsWith e none pos.line X.env = pure false := by rfl) : PS X (.Expr e pos) (tDrop te) := by
  intro pins s σ H D I h
  exact wpAny_Expr_any (thn (he pins s σ H _ I h) fun v s1 ⟨x, H1, I1, r1, q1⟩ => ⟨σ, H1, I1, q1⟩) I.quiet hs
def tRet (te : TE) : TS := fun D σ H => te σ H D.rt
theorem ps_ret (he : PE X e te) : PS X (.Return (some e) pos) (tRet te) := by
  intro pins s σ H D I h
  exact wpAny_Return_some (thn (he pins s σ H _ I h) fun v s1 ⟨x, H1, I1, r1, q1⟩ => ⟨x, σ, H1, I1, r1, q1⟩)
def tIfS (c : TT) (t u : TS) : TS := fun D σ H => c σ H fun b H1 => if b = true then t D σ H1 else u D σ H1
theorem ps_if {c : Expr} {a b : List Stmt} {tc : TT} (hc : PT X c tc) (ha : PSs X a t) (hb : PSs X b u) : PS X (.If c a b pos) (tIfS tc t u) := by
  intro pins s σ H D I h
  refine wpAny_If (thn (hc pins s σ H _ I h) fun d s1 ⟨H1, I1, q1⟩ => ?_)
  cases d with
  | true => exact ha pins s1 σ H1 D I1 q1
  | false => exact hb pins s1 σ H1 D I1 q1
/-- code that the proof never comes to -/
def tNever : TS := fun _ _ _ => False
theorem ps_never : PS X st tNever := fun _ _ _ _ _ _ h => h.elim
end

/-! ### targets -/
abbrev TG := V → St → Hp → (St → Hp → Prop) → Prop
abbrev TGs := List V → St → Hp → (St → Hp → Prop) → Prop
def PG (X : Cx) (target : Expr) (t : TG) : Prop :=
  ∀ (pins : List (Addr × Obj)) (s : Shared) (σ : St) (H : Hp) (v : V) (u : Value) (Q : St → Hp → Prop), Inv X pins σ H s → RelV v u → t v σ H Q →
    wpAny (model X.prog X.w) X.A (assign target X.env u) (fun _ s' => ∃ σ' H', Inv X pins σ' H' s' ∧ Q σ' H') X.xe s
/-- several targets, one after another -/
def PGs (X : Cx) (ts : List Expr) (t : TGs) : Prop :=
  ∀ (pins : List (Addr × Obj)) (s : Shared) (σ : St) (H : Hp) (vs : List V) (us : List Value) (Q : St → Hp → Prop), Inv X pins σ H s → Vals vs us → t vs σ H Q →
    wpAny (model X.prog X.w) X.A (assignInOrder ((assignEach ts X.env).map (·.2)) us) (fun _ s' => ∃ σ' H', Inv X pins σ' H' s' ∧ Q σ' H') X.xe s
/-- a op= b, by values -/
abbrev TIp := V → V → Hp → VK → Prop
def PIp (X : Cx) (op : Operator) (t : TIp) : Prop :=
  ∀ (pins : List (Addr × Obj)) (s : Shared) (σ : St) (H : Hp) (x y : V) (v u : Value) (Q : VK), Inv X pins σ H s → RelV x v → RelV y u → t x y H Q →
    wpAny (model X.prog X.w) X.A (inplaceOp op v u) (EP X pins σ Q) X.xe s
section
variable {X : Cx} {pos : Pos}
def gName (i : Nat) : TG := fun v σ H Q => Q (σ.set i (some v)) H
theorem pg_name {i : Nat} {x : Str} (hN : X.N.Nodup) (hi : X.N[i]? = some x) (hx : Loc X.env.scope x) (hf : X.fn x = true ∨ X.env.scope.names.lookup x = some .local := by first | exact .inl rfl | exact .inr rfl | assumption) : PG X (.Name x pos) (gName i) := by
  intro pins s σ H v u Q I r h
  exact wpAny_assign_Name (store_ok I hN hi hx r (fun s' I' => ⟨_, H, I', h⟩) hf)
def gNil : TGs := fun vs σ H Q => vs = [] ∧ Q σ H
def gCons (t : TG) (u : TGs) : TGs := fun vs σ H Q => ∃ v r, vs = v :: r ∧ t v σ H fun σ' H' => u r σ' H' Q
theorem pgs_nil : PGs X [] gNil := by
  intro pins s σ H vs us Q I r h
  obtain ⟨e, h⟩ := h
  subst e
  cases r
  exact assignInOrder_nil ⟨σ, H, I, h⟩
theorem pgs_cons {e : Expr} {es : List Expr} {t : TG} {u : TGs} (h1 : PG X e t) (h2 : PGs X es u)
    (hs : (assignEach (e :: es) X.env).map (·.2) = assign e X.env :: (assignEach es X.env).map (·.2) := by rfl) : PGs X (e :: es) (gCons t u) := by
  intro pins s σ H vs us Q I r h
  obtain ⟨v, vr, e1, h⟩ := h
  subst e1
  cases r with
  | cons r rr =>
    rw [hs]
    refine assignInOrder_cons (thn (h1 pins s σ H _ _ _ I r h) fun _ s1 ⟨σ1, H1, I1, q1⟩ => ?_)
    exact h2 pins s1 σ1 H1 _ _ Q I1 rr q1
/-- (a, b, ..) = a tuple of that length -/
def gTup (K : PySem.W.Frag) (n : Nat) (t : TGs) : TG := fun v σ H Q => ∃ a xs, v = .ref a ∧ SqT K H a xs ∧ xs.length = n ∧ t xs σ H Q
theorem pg_tup {es : List Expr} {k : Nat} {t : TGs} {n : Nat} (hc : X.calm = true) (h : PGs X es t)
    (hn : (assignEach es X.env).length = n := by rfl) (hst : (assignEach es X.env).findIdx? (·.1) = none := by rfl) : PG X (.Tuple es k pos) (gTup X.K n t) := by
  intro pins s σ H v u Q I r hw
  obtain ⟨a, xs, e1, hq, hl, hw⟩ := hw
  subst e1
  cases r
  obtain ⟨its, rv, ht, hz⟩ := I.tuple hq
  refine assign_Tuple_tuple (I.ok.hd hc) ht (by simp [hn, ← hl, rv.length]) hst fun h' hx => ?_
  have I1 : Inv X pins σ H { s with heap := h' } := I.kept (t' := s.toks) fun b o e => hx b o (Nat.ne_of_lt (Heap.lt_size e)) e
  exact h pins _ σ H xs _ Q I1 (by simpa using rv) hw
/-- target = value -/
def tAsg (te : TE) (g : TG) : TS := fun D σ H => te σ H fun x H1 => g x σ H1 D.nx
/-- name = value -/
theorem ps_set {i : Nat} {x : Str} {e : Expr} {te : TE} {pos' : Pos} (hN : X.N.Nodup) (hi : X.N[i]? = some x) (hx : Loc X.env.scope x) (he : PE X e te) (hs : swapsWith e (some (.Name x pos')) pos.line X.env = pure false := by rfl) (hf : X.fn x = true ∨ X.env.scope.names.lookup x = some .local := by first | exact .inl rfl | exact .inr rfl | assumption) :
    PS X (.Assign [.Name x pos'] e pos) (tAsg te (gName i)) := by
  intro pins s σ H D I h
  refine wpAny_Assign_Name (thn (he pins s σ H _ I h) fun v s1 ⟨y, H1, I1, r1, q1⟩ => ?_) hs
  exact store_ok I1 hN hi hx r1 (fun s2 I2 => ⟨_, H1, I2, q1⟩) hf
/-- name op= e -/
def tAug (i : Nat) (te : TE) (ti : TIp) : TS := fun D σ H => ∃ x, σ[i]? = some (some x) ∧ te σ H fun y H1 => ti x y H1 fun z H2 => D.nx (σ.set i (some z)) H2
theorem ps_aug {i : Nat} {x : Str} {e : Expr} {te : TE} {op : Operator} {ti : TIp} {pos' : Pos} (hN : X.N.Nodup) (hi : X.N[i]? = some x) (hx : Loc X.env.scope x) (he : PE X e te) (ho : PIp X op ti) (hf : X.fn x = true ∨ X.env.scope.names.lookup x = some .local := by first | exact .inl rfl | exact .inr rfl | assumption) :
    PS X (.AugAssign (.Name x pos') op e pos) (tAug i te ti) := by
  intro pins s σ H D I h
  obtain ⟨v, e1, h⟩ := h
  obtain ⟨m, hn, hl⟩ := I.loc
  have vis : Vis X.env.scope x := by rcases hx with k | k; exact .inl k; exact .inr (.inl k)
  obtain ⟨u, r, l⟩ := hl i x v hi e1 vis
  refine wpAny_AugAssign_Name ?_
  have go : wpAny (model X.prog X.w) X.A (eval e X.env) (fun w s₂ => wpAny (model X.prog X.w) X.A (inplaceOp op u w) (fun r s₃ => wpAny (model X.prog X.w) X.A (storeName X.env x r) (fun _ => SP X pins D .next) X.xe s₃) X.xe s₂) X.xe s := by
    refine thn (he pins s σ H _ I h) fun w s1 ⟨y, H1, I1, r1, q1⟩ => ?_
    refine thn (ho pins s1 σ H1 v y u w _ I1 r r1 q1) fun z s2 ⟨zv, H2, I2, r2, q2⟩ => ?_
    exact store_ok I2 hN hi hx r2 (fun s3 I3 => ⟨_, H2, I3, q2⟩) hf
  rcases l with ⟨hk, hm⟩ | ⟨hk, c, hc, hcell⟩
  · exact wpAny_loadName_local I.ok.kind hk hn hm go
  · rcases hk with hk | hk
    · exact wpAny_loadName_cell I.ok.kind hk hc hcell go
    · rcases hx with k | k
      · have : X.env.scope.names.lookup x = some .free := hk
        rw [k] at this; cases this
      · have : X.env.scope.names.lookup x = some .free := hk
        rw [k] at this; cases this
/-- ints -/
def ipI (f : Int → Int → Int) : TIp := fun x y H Q => ∃ i j, x = .int i ∧ y = .int j ∧ Q (.int (f i j)) H
theorem ip_add : PIp X .Add (ipI fun i j => i + j) := by
  intro pins s σ H x y v u Q I r1 r2 h
  obtain ⟨i, j, e1, e2, q⟩ := h
  subst e1; subst e2
  obtain ⟨t, rfl⟩ := r1
  obtain ⟨t', rfl⟩ := r2
  exact iadd_int ⟨.int _, H, I.tok _, ⟨_, rfl⟩, q⟩
end

/-! ### while -/
section
variable {X : Cx} {pos : Pos}
/-- the invariant W with its measure -/
def tWhile (c : TT) (tb : TS) : TS := fun D σ H => ∃ W : Nat → St → Hp → Prop, (∃ m, W m σ H) ∧ ∀ m σ H, W m σ H →
  c σ H fun b H1 => if b = true then ∃ N : St → Hp → Prop, (∀ σ' H', N σ' H' → ∃ m', m' < m ∧ W m' σ' H') ∧ tb { D with nx := N, ct := N, bk := D.nx } σ H1 else D.nx σ H1
theorem ps_while {c : Expr} {body : List Stmt} {tc : TT} {tb : TS} (hp : PassesOwn (model X.prog X.w) X.A X.env X.xe) (hc : PT X c tc) (hb : PSs X body tb) : PS X (.While c body [] pos) (tWhile tc tb) := by
  intro pins s σ H D I h
  obtain ⟨W, ⟨m0, w0⟩, turn⟩ := h
  refine wpAny_While (codeAny_whileLoop (fun n s' => ∃ σ' H', Inv X pins σ' H' s' ∧ W n σ' H') ?_ m0 ⟨σ, H, I, w0⟩)
  rintro n s1 ⟨σ1, H1, I1, w1⟩
  refine wpAny_passesOwn hp (thn (hc pins s1 σ1 H1 _ I1 (turn n σ1 H1 w1)) fun b s2 ⟨H2, I2, q2⟩ => ?_)
  cases b with
  | true =>
    obtain ⟨N, hN, q2⟩ := q2
    rw [if_pos rfl]
    refine wpAny_passesOwn hp (thn (hb pins s2 σ1 H2 _ I2 q2) fun f s3 q3 => ?_)
    cases f with
    | next =>
      obtain ⟨σ3, H3, I3, n3⟩ := q3
      obtain ⟨m', hm, w3⟩ := hN σ3 H3 n3
      exact ⟨m', hm, σ3, H3, I3, w3⟩
    | cont =>
      obtain ⟨σ3, H3, I3, n3⟩ := q3
      obtain ⟨m', hm, w3⟩ := hN σ3 H3 n3
      exact ⟨m', hm, σ3, H3, I3, w3⟩
    | brk => exact q3
    | ret v => exact q3
  | false =>
    rw [if_neg Bool.false_ne_true]
    exact wpAny_execs_nil ⟨σ1, H2, I2, q2⟩
end

/-! ### what a loop or a comprehension walks -/
/-- at turn i: it yields x (the heap may grow), or it stops -/
structure It where
  go : Nat → Hp → Prop
  yld : Nat → Hp → V → Hp → Prop
  stop : Nat → Hp → Prop
/-- the iterator's own objects may turn: they are not the frame's, not pinned, younger than the entry (or a comprehension's own) -/
def FpOk (X : Cx) (pins : List (Addr × Obj)) (H : Hp) (b : Addr) : Prop :=
  H b = none ∧ b ≠ X.env.locals ∧ b ∉ X.fs ∧ (b ∈ X.ex ∨ X.s₀.heap.objs.size ≤ b) ∧ (∀ x c, X.env.cells.lookup x = some c → c ≠ b) ∧ ∀ p ∈ X.pn ++ pins, p.1 ≠ b
theorem Inv.fpOk {X : Cx} {pins : List (Addr × Obj)} {σ : St} {H H' : Hp} {s : Shared} {b : Addr} (I : Inv X pins σ H s) (hb : s.heap.objs.size ≤ b) (hn : H' b = none) : FpOk X pins H' b := by
  refine ⟨hn, Nat.ne_of_gt (Nat.lt_of_lt_of_le I.lt hb), I.nofs hb, .inr (Nat.le_trans I.sz hb), fun x c e z => ?_, fun p hp z => ?_⟩
  · obtain ⟨v, q⟩ := I.cell x c e
    exact absurd (Nat.lt_of_lt_of_le q.lt (by rw [z]; exact hb)) (Nat.lt_irrefl _)
  · exact absurd (Nat.lt_of_lt_of_le (Heap.lt_size (I.pin p hp).1) (by rw [z]; exact hb)) (Nat.lt_irrefl _)
structure Turn (P : Program) (w : World) (K : PySem.W.Frag) (tg : Expr) (J : It) (fp : List Addr) (it : Addr) (tn : Nat → Heap → Prop) : Prop where
  mem : it ∈ fp
  obj : ∀ i h, tn i h → ∀ b ∈ fp, ∃ o, h.get? b = some o ∧ ∀ v, o.data ≠ .cell v
  keep : ∀ i h h', tn i h → (∀ b ∈ fp, ∀ o, h.get? b = some o → h'.get? b = some o) → tn i h'
  item : ∀ (X : Cx), X.prog = P → X.w = w → X.K = K → X.calm = true → ∀ (i : Nat) (pins : List (Addr × Obj)) (s : Shared) (σ : St) (H : Hp) (E : Value → Shared → Prop), Inv X pins σ H s → (∀ b ∈ fp, FpOk X pins H b) → tn i s.heap → J.go i H →
    wpAny (model P w) X.A (pyNext (.ref it)) (fun r s1 => ∃ u, r = some u ∧
      wpAny (model P w) X.A (letOwnedTupleGo tg (.ref it) u) (fun _ s2 => ∃ x H', Inv X pins σ H' s2 ∧ RelV x u ∧ J.yld i H x H' ∧ tn (i + 1) s2.heap ∧ ∀ b ∈ fp, H' b = none) E s1) E s
  done : ∀ (X : Cx), X.prog = P → X.w = w → X.K = K → X.calm = true → ∀ (i : Nat) (pins : List (Addr × Obj)) (s : Shared) (σ : St) (H : Hp) (E : Value → Shared → Prop), Inv X pins σ H s → (∀ b ∈ fp, FpOk X pins H b) → tn i s.heap → J.stop i H →
    wpAny (model P w) X.A (pyNext (.ref it)) (fun r s1 => r = none ∧ Inv X pins σ H s1) E s
  self : ∀ (A : Around) (i : Nat) (s : Shared) (Q : Value → Shared → Prop) (E : Value → Shared → Prop), tn i s.heap → Q (.ref it) s → wpAny (model P w) A (pyIter (.ref it)) Q E s
abbrev TI := St → Hp → (It → Hp → Prop) → Prop
/-- an iterator has come -/
def PIE (X : Cx) (pins : List (Addr × Obj)) (σ : St) (tg : Expr) (R : It → Hp → Prop) (itv : Value) (s2 : Shared) : Prop :=
  ∃ (it : Addr) (fp : List Addr) (tn : Nat → Heap → Prop) (J : It) (H' : Hp), itv = .ref it ∧ Inv X pins σ H' s2 ∧ Turn X.prog X.w X.K tg J fp it tn ∧ tn 0 s2.heap ∧ (∀ b ∈ fp, FpOk X pins H' b) ∧ R J H'
def PI (X : Cx) (tg iter : Expr) (wi : TI) : Prop :=
  ∀ (pins : List (Addr × Obj)) (s : Shared) (σ : St) (H : Hp) (R : It → Hp → Prop), Inv X pins σ H s → wi σ H R →
    wpAny (model X.prog X.w) X.A (eval iter X.env) (fun v s1 => wpAny (model X.prog X.w) X.A (pyIter v) (PIE X pins σ tg R) X.xe s1) X.xe s

/-- the step ahead of the store is nothing for an iterator that keeps no tuple -/
theorem go_of {M : Model} {A : Around} {E : Value → Shared → Prop} {s : Shared} {tg : Expr} {it : Addr} {u : Value} {o : Obj} {n : String} {vs : Array Value} {Q : Unit → Shared → Prop} (ho : s.heap.get? it = some o) (hc : o.cls = .type n) (hd : o.data = .fields vs)
    (hn : ["enumerate", "zip", "dict_itemiterator", "dict_reverseitemiterator", "odict_iterator", "itertools.zip_longest", "itertools.pairwise"].contains n = false) (hQ : Q () s) : wpAny M A (letOwnedTupleGo tg (.ref it) u) Q E s := by
  unfold letOwnedTupleGo
  cases tg <;> first
    | exact wpAny_pure hQ
    | (cases u <;> first
        | exact wpAny_pure hQ
        | (refine wpAny_bind (wpAny_load ho ?_)
           rw [hc, hd]
           show wpAny M A (if (["enumerate", "zip", "dict_itemiterator", "dict_reverseitemiterator", "odict_iterator", "itertools.zip_longest", "itertools.pairwise"].contains n && vs[0]? == some (rawInt _)) = true then _ else _) Q E s
           rw [if_neg (by intro h; rw [hn, Bool.false_and] at h; cases h)]
           exact wpAny_pure hQ))

/-- the list at a, as it stands at each turn (a loop may append to it) -/
def Itl (K : PySem.W.Frag) (a : Addr) : It :=
  ⟨fun i H => ∃ xs x, SqL K H a xs ∧ xs[i]? = some x, fun i H x H' => H' = H ∧ ∀ xs, SqL K H a xs → xs[i]? = some x, fun i H => ∃ xs, SqL K H a xs ∧ xs.length ≤ i⟩
def Itt (K : PySem.W.Frag) (a : Addr) : It :=
  ⟨fun i H => ∃ xs x, SqT K H a xs ∧ xs[i]? = some x, fun i H x H' => H' = H ∧ ∀ xs, SqT K H a xs → xs[i]? = some x, fun i H => ∃ xs, SqT K H a xs ∧ xs.length ≤ i⟩
/-- lo, lo + 1, .. (n of them) -/
def Itr (lo : Int) (n : Nat) : It := ⟨fun i _ => i < n, fun i H x H' => H' = H ∧ x = .int (lo + i), fun i _ => n ≤ i⟩
theorem turn_list {P : Program} {w : World} {K : PySem.W.Frag} {tg : Expr} (a it : Addr) : Turn P w K tg (Itl K a) [it] it (fun i h => h.IsListIter it a i) where
  mem := by simp
  obj := fun i h st b hb => by
    have e : b = it := by simpa using hb
    subst e
    obtain ⟨o, e, c, d⟩ := st
    exact ⟨o, e, fun v z => by rw [d] at z; cases z⟩
  keep := fun i h h' st k => st.at fun o e => k it (by simp) o e
  item := by
    intro X hP hw hK hc i pins s σ H E I hf st hg
    subst hP hw hK
    obtain ⟨xs, x, hq, hx⟩ := hg
    obtain ⟨its, rv, p, hz⟩ := I.list hq
    obtain ⟨u, hu, ru⟩ := rv.get hx
    obtain ⟨f0, f1, f2, f3, f4, f5⟩ := hf it (by simp)
    refine wpAny_pyNext_list_item st p.isList (x := u) (by simpa using hu) fun h' st' sb => ?_
    have I1 : Inv X pins σ H { s with heap := h' } := I.turned (t' := s.toks) (fun b o hb e => (sb.2 b hb).trans e) f0 f1 f3 f4 f5
    obtain ⟨o, e, c, d⟩ := id st'
    exact ⟨u, rfl, go_of (s := { s with heap := h' }) e c d (by decide) ⟨x, H, I1, ru, ⟨rfl, fun ys hy => by rw [I.list_inj hy hq]; exact hx⟩, st', fun b hb => (hf b hb).1⟩⟩
  done := by
    intro X hP hw hK hc i pins s σ H E I hf st hg
    subst hP hw hK
    obtain ⟨xs, hq, hx⟩ := hg
    obtain ⟨its, rv, p, hz⟩ := I.list hq
    obtain ⟨f0, f1, f2, f3, f4, f5⟩ := hf it (by simp)
    have hl := rv.length
    exact wpAny_pyNext_list_end (I.ok.hd hc) st p.isList (by simp; omega) fun h' eb => ⟨rfl, I.turned (t' := s.toks) (fun b o hb e => eb b o hb e) f0 f1 f3 f4 f5⟩
  self := fun _ _ _ _ _ st h => wpAny_pyIter_listiter st h
theorem turn_tuple {P : Program} {w : World} {K : PySem.W.Frag} {tg : Expr} (a it : Addr) : Turn P w K tg (Itt K a) [it] it (fun i h => h.IsTupleIter it a i) where
  mem := by simp
  obj := fun i h st b hb => by
    have e : b = it := by simpa using hb
    subst e
    obtain ⟨o, e, c, d⟩ := st
    exact ⟨o, e, fun v z => by rw [d] at z; cases z⟩
  keep := fun i h h' st k => st.at fun o e => k it (by simp) o e
  item := by
    intro X hP hw hK hc i pins s σ H E I hf st hg
    subst hP hw hK
    obtain ⟨xs, x, hq, hx⟩ := hg
    obtain ⟨its, rv, p, hz⟩ := I.tuple hq
    obtain ⟨u, hu, ru⟩ := rv.get hx
    obtain ⟨f0, f1, f2, f3, f4, f5⟩ := hf it (by simp)
    refine wpAny_pyNext_tuple_item st (show s.heap.IsTuple a its.toArray from p) (x := u) (by simpa using hu) fun h' st' sb => ?_
    have I1 : Inv X pins σ H { s with heap := h' } := I.turned (t' := s.toks) (fun b o hb e => (sb.2 b hb).trans e) f0 f1 f3 f4 f5
    obtain ⟨o, e, c, d⟩ := id st'
    exact ⟨u, rfl, go_of (s := { s with heap := h' }) e c d (by decide) ⟨x, H, I1, ru, ⟨rfl, fun ys hy => by rw [I.tuple_inj hy hq]; exact hx⟩, st', fun b hb => (hf b hb).1⟩⟩
  done := by
    intro X hP hw hK hc i pins s σ H E I hf st hg
    subst hP hw hK
    obtain ⟨xs, hq, hx⟩ := hg
    obtain ⟨its, rv, p, hz⟩ := I.tuple hq
    obtain ⟨f0, f1, f2, f3, f4, f5⟩ := hf it (by simp)
    have hl := rv.length
    exact wpAny_pyNext_tuple_end (I.ok.hd hc) st (show s.heap.IsTuple a its.toArray from p) (by simp; omega) fun h' eb => ⟨rfl, I.turned (t' := s.toks) (fun b o hb e => eb b o hb e) f0 f1 f3 f4 f5⟩
  self := fun _ _ _ _ _ st h => wpAny_pyIter_tupleiter st h
theorem turn_range {P : Program} {w : World} {K : PySem.W.Frag} {tg : Expr} (it : Addr) (lo : Int) (n : Nat) : Turn P w K tg (Itr lo n) [it] it (fun i h => IsRangeIter h it (lo + (i : Nat) * 1) ((n : Int) - (i : Nat)) 1) where
  mem := by simp
  obj := fun i h st b hb => by
    have e : b = it := by simpa using hb
    subst e
    exact ⟨_, st, fun v z => by
      have z' : Data.fields _ = Data.cell v := z
      cases z'⟩
  keep := fun i h h' st k => k it (by simp) _ st
  item := by
    intro X hP hw hK hc i pins s σ H E I hf st hg
    subst hP hw hK
    obtain ⟨f0, f1, f2, f3, f4, f5⟩ := hf it (by simp)
    have W := Walks.range (prog := X.prog) (w := X.w) (I.ok.hd hc) it lo 1 n
    refine W.item i s _ _ hg st fun v h' tk hv st' kk => ?_
    obtain ⟨t, rfl⟩ := hv
    have I1 : Inv X pins σ H { s with heap := h', toks := tk } := I.turned (fun b o hb e => kk b o (by simpa using hb) e) f0 f1 f3 f4 f5
    refine ⟨_, rfl, go_of (s := { s with heap := h', toks := tk }) (n := "range_iterator") st' rfl rfl (by decide) ⟨.int (lo + i), H, I1, ⟨t, ?_⟩, ⟨rfl, rfl⟩, st', fun b hb => (hf b hb).1⟩⟩
    rw [Int.mul_one]
  done := by
    intro X hP hw hK hc i pins s σ H E I hf st hg
    subst hP hw hK
    obtain ⟨f0, f1, f2, f3, f4, f5⟩ := hf it (by simp)
    exact wpAny_pyNext_range_end (I.ok.hd hc) st (by have : n ≤ i := hg; omega) fun h' eb => ⟨rfl, I.turned (t' := s.toks) (fun b o hb e => eb b o hb e) f0 f1 f3 f4 f5⟩
  self := fun _ _ _ _ _ st h => wpAny_pyIter_rangeiter st h
end L2

namespace L2
open PySem PySem.Spec PyProof.Rows
section
variable {X : Cx} {tg : Expr}
def iList (K : PySem.W.Frag) (tl : TE) : TI := fun σ H R => tl σ H fun x H1 => ∃ a, x = .ref a ∧ (∃ xs, SqL K H1 a xs) ∧ R (Itl K a) H1
def iTup (K : PySem.W.Frag) (tl : TE) : TI := fun σ H R => tl σ H fun x H1 => ∃ a, x = .ref a ∧ (∃ xs, SqT K H1 a xs) ∧ R (Itt K a) H1
theorem pi_list {l : Expr} {tl : TE} (hl : PE X l tl) : PI X tg l (iList X.K tl) := by
  intro pins s σ H R I h
  refine thn (hl pins s σ H _ I h) fun v s1 ⟨x, H1, I1, r1, q1⟩ => ?_
  obtain ⟨a, e, ⟨xs, hq⟩, q⟩ := q1
  subst e
  cases r1
  obtain ⟨its, rv, p, hz⟩ := I1.list hq
  refine wpAny_pyIter_list p.isList ?_
  refine ⟨s1.heap.objs.size, [s1.heap.objs.size], _, _, H1, rfl, I1.kept (t' := s1.toks) fun b o e => Heap.get?_push_of_some _ e, turn_list a _, ⟨_, Heap.get?_push_size _ rfl, rfl, rfl⟩, fun b hb => ?_, q⟩
  have e : b = s1.heap.objs.size := by simpa using hb
  subst e
  exact I1.fpOk (Nat.le_refl _) (I1.hok.fresh (Nat.le_refl _))
theorem pi_tup {l : Expr} {tl : TE} (hl : PE X l tl) : PI X tg l (iTup X.K tl) := by
  intro pins s σ H R I h
  refine thn (hl pins s σ H _ I h) fun v s1 ⟨x, H1, I1, r1, q1⟩ => ?_
  obtain ⟨a, e, ⟨xs, hq⟩, q⟩ := q1
  subst e
  cases r1
  obtain ⟨its, rv, p, hz⟩ := I1.tuple hq
  refine wpAny_pyIter_tuple (show s1.heap.IsTuple a its.toArray from p) ?_
  refine ⟨s1.heap.objs.size, [s1.heap.objs.size], _, _, H1, rfl, I1.kept (t' := s1.toks) fun b o e => Heap.get?_push_of_some _ e, turn_tuple a _, ⟨_, Heap.get?_push_size _ rfl, rfl, rfl⟩, fun b hb => ?_, q⟩
  have e : b = s1.heap.objs.size := by simpa using hb
  subst e
  exact I1.fpOk (Nat.le_refl _) (I1.hok.fresh (Nat.le_refl _))
/-- a range object just made, walked -/
theorem range_it {pins : List (Addr × Obj)} {σ : St} {H : Hp} {s : Shared} {R : It → Hp → Prop} {E : Value → Shared → Prop} {lo hi : Int} {t u v : Tok} {tk : Nat} (I : Inv X pins σ H s) (h1 : -(2 ^ 62) ≤ lo) (h2 : lo < 2 ^ 62) (h3 : -(2 ^ 62) ≤ hi) (h4 : hi < 2 ^ 62)
    (q : R (Itr lo (hi - lo).toNat) H) : wpAny (model X.prog X.w) X.A (pyIter (.ref s.heap.objs.size)) (PIE X pins σ tg R) E { s with heap := s.heap.push { cls := .type "range", data := .fields #[.int lo t, .int hi u, .int 1 v] }, toks := tk } := by
  refine wpAny_pyIter_range (IsRange.new ..) (small_one h1 h2 h3 h4) ?_
  have I1 : Inv X pins σ H { s with heap := s.heap.push { cls := .type "range", data := .fields #[.int lo t, .int hi u, .int 1 v] }, toks := tk } := I.kept fun b o e => Heap.get?_push_of_some _ e
  refine ⟨(s.heap.push { cls := .type "range", data := .fields #[.int lo t, .int hi u, .int 1 v] }).objs.size, [(s.heap.push { cls := .type "range", data := .fields #[.int lo t, .int hi u, .int 1 v] }).objs.size], _, _, H, rfl,
    I1.kept (t' := tk) fun b o e => Heap.get?_push_of_some _ e, turn_range _ lo (hi - lo).toNat, ?_, fun b hb => ?_, q⟩
  · have e1 : lo + ((0 : Nat) : Int) * 1 = lo := by simp
    have e2 : (((hi - lo).toNat : Nat) : Int) - ((0 : Nat) : Int) = Builtin.Range.rangeSize lo hi 1 := by rw [rangeSize_one]; split <;> omega
    show IsRangeIter _ _ (lo + ((0 : Nat) : Int) * 1) ((((hi - lo).toNat : Nat) : Int) - ((0 : Nat) : Int)) 1
    rw [e1, e2]
    exact Heap.get?_push_size _ rfl
  · have e : b = (s.heap.push { cls := .type "range", data := .fields #[.int lo t, .int hi u, .int 1 v] }).objs.size := by simpa using hb
    subst e
    exact I1.fpOk (Nat.le_refl _) (I1.hok.fresh (Nat.le_refl _))
def iRng1 (ta : TA) : TI := fun σ H R => ta σ H fun vs H1 => ∃ j : Int, vs = [.int j] ∧ -(2 ^ 62) ≤ j ∧ j < 2 ^ 62 ∧ R (Itr 0 j.toNat) H1
theorem pi_range1 {a : Expr} {ta : TA} {p pos : Pos} (hg : Gl X "range") (hm : X.mg "range" = none) (ha : PA X [a] ta) (hs : starEach [a] X.env = [(false, eval a X.env)] := by rfl) : PI X tg (.Call (.Name "range" p) [a] [] pos) (iRng1 ta) := by
  intro pins s σ H R I h
  refine Call_ (ld_blt I hg hm boot_range (PyProof.Rows.callWith_type1 (thn (ha pos pins s σ H _ I h) fun us s1 ⟨vs, H1, I1, r1, q1⟩ => ?_) hs rfl))
  obtain ⟨j, e, q1, q2, q⟩ := q1
  subst e
  cases r1 with
  | cons r rr =>
    cases rr
    obtain ⟨t, rfl⟩ := r
    exact call_range_1 (range_it I1 (by omega) (by omega) q1 q2 (by simpa using q))
/-! ### for -/
/-- W: the invariant by the turn and a measure; N: what the body is to reach -/
def tFor (wi : TI) (g : TG) (tb : TS) : TS := fun D σ H => wi σ H fun J H1 => ∃ W : Nat → Nat → St → Hp → Prop, (∃ m, W 0 m σ H1) ∧ ∀ i m σ H, W i m σ H →
  (J.stop i H ∧ D.nx σ H) ∨ (J.go i H ∧ ∃ N : St → Hp → Prop, (∀ σ' H', N σ' H' → ∃ m', m' < m ∧ W (i + 1) m' σ' H') ∧ ∀ x H', J.yld i H x H' → g x σ H' fun σ2 H2 => tb { D with nx := N, ct := N, bk := D.nx } σ2 H2)
/-- the records at fp as they stand -/
def pinsAt (fp : List Addr) (h : Heap) : List (Addr × Obj) := fp.filterMap fun b => (h.get? b).map fun o => (b, o)
theorem mem_pinsAt {fp : List Addr} {h : Heap} {b : Addr} {o : Obj} (hb : b ∈ fp) (e : h.get? b = some o) : (b, o) ∈ pinsAt fp h := List.mem_filterMap.mpr ⟨b, hb, by rw [e]; rfl⟩
theorem of_pinsAt {fp : List Addr} {h : Heap} {p : Addr × Obj} (hp : p ∈ pinsAt fp h) : p.1 ∈ fp ∧ h.get? p.1 = some p.2 := by
  obtain ⟨b, hb, e⟩ := List.mem_filterMap.mp hp
  cases q : h.get? b with
  | none => rw [q] at e; cases e
  | some o =>
    rw [q] at e
    have e' : (b, o) = p := Option.some.inj e
    subst e'
    exact ⟨hb, q⟩
theorem Inv.pinned {pins : List (Addr × Obj)} {σ : St} {H : Hp} {s : Shared} {fp : List Addr} (I : Inv X pins σ H s) (hf : ∀ b ∈ fp, FpOk X pins H b) (ho : ∀ b ∈ fp, ∃ o, s.heap.get? b = some o ∧ ∀ v, o.data ≠ .cell v) : Inv X (pins ++ pinsAt fp s.heap) σ H s :=
  I.pins_of fun p hp => (List.mem_append.mp hp).elim (fun z => I.pin p (List.mem_append_right _ z)) fun z => by
    obtain ⟨hb, e⟩ := of_pinsAt z
    obtain ⟨f0, f1, f2, _⟩ := hf p.1 hb
    obtain ⟨o, e', d⟩ := ho p.1 hb
    rw [e] at e'; cases e'
    exact ⟨e, f0, f1, f2, d⟩
theorem Inv.unpinned {pins pl : List (Addr × Obj)} {σ : St} {H : Hp} {s : Shared} (I : Inv X (pins ++ pl) σ H s) : Inv X pins σ H s := I.pins_of fun p hp => I.pin p (List.mem_append_right _ (List.mem_append_left _ hp))
theorem ps_for {iter : Expr} {body : List Stmt} {wi : TI} {g : TG} {tb : TS} {pos : Pos} (hp : PassesOwn (model X.prog X.w) X.A X.env X.xe) (hc : X.calm = true) (hi : PI X tg iter wi) (hg : PG X tg g) (hb : PSs X body tb)
    (hs : ∀ x, foldedSetIterable iter X.env x = pure x := by intro _; rfl) : PS X (.For tg iter body [] pos) (tFor wi g tb) := by
  intro pins s σ H D I h
  refine wpAny_For (thn (hi pins s σ H _ I h) fun v s1 h1 => thn h1 fun itv s2 h2 => ?_) hs
  obtain ⟨it, fp, tn, J, H2, e, I2, T, st2, f2, W, ⟨m0, w0⟩, turn⟩ := h2
  subst e
  -- what stays true of the iterator's objects through the loop
  have stat : ∀ {H' : Hp}, (∀ b ∈ fp, H' b = none) → ∀ b ∈ fp, FpOk X pins H' b := fun hn b hb => ⟨hn b hb, (f2 b hb).2⟩
  refine codeAny_forLoop_any (fun n s' => ∃ i σ' H', Inv X pins σ' H' s' ∧ tn i s'.heap ∧ (∀ b ∈ fp, H' b = none) ∧ W i n σ' H') ?_ m0 ⟨0, σ, H2, I2, st2, fun b hb => (f2 b hb).1, w0⟩
  rintro n s3 ⟨i, σ3, H3, I3, st3, fr3, w3⟩
  rcases turn i n σ3 H3 w3 with ⟨stop, qn⟩ | ⟨go, N, hN, step⟩
  · refine wpAny_passesOwn hp (thn (T.done X rfl rfl rfl hc i pins s3 σ3 H3 X.xe I3 (stat fr3) st3 stop) fun r s4 ⟨hr, I4⟩ => ?_)
    subst hr
    exact wpAny_execs_nil ⟨σ3, H3, I4, qn⟩
  · refine wpAny_passesOwn hp (thn (T.item X rfl rfl rfl hc i pins s3 σ3 H3 X.xe I3 (stat fr3) st3 go) fun r s4 ⟨u, hr, h4⟩ => ?_)
    subst hr
    refine wpAny_passesOwn hp (thn h4 fun _ s5 ⟨x, H5, I5, r5, y5, st5, fr5⟩ => ?_)
    have I5' := I5.pinned (stat fr5) (T.obj _ _ st5)
    refine wpAny_passesOwn hp (thn (hg _ s5 σ3 H5 x u _ I5' r5 (step x H5 y5)) fun _ s6 ⟨σ6, H6, I6, q6⟩ => ?_)
    refine wpAny_passesOwn hp (thn (hb _ s6 σ6 H6 _ I6 q6) fun f s7 q7 => ?_)
    have again : ∀ {σ7 : St} {H7 : Hp}, Inv X (pins ++ pinsAt fp s5.heap) σ7 H7 s7 → N σ7 H7 → ∃ m, m < n ∧ ∃ i σ' H', Inv X pins σ' H' s7 ∧ tn i s7.heap ∧ (∀ b ∈ fp, H' b = none) ∧ W i m σ' H' := fun {σ7 H7} I7 n7 => by
      obtain ⟨m', hm, w7⟩ := hN σ7 H7 n7
      refine ⟨m', hm, i + 1, σ7, H7, I7.unpinned, T.keep _ _ _ st5 fun b hb o e => (I7.pin (b, o) (List.mem_append_right _ (List.mem_append_right _ (mem_pinsAt hb e)))).1, fun b hb => ?_, w7⟩
      obtain ⟨o, e, d⟩ := T.obj _ _ st5 b hb
      exact (I7.pin (b, o) (List.mem_append_right _ (List.mem_append_right _ (mem_pinsAt hb e)))).2.1
    cases f with
    | next => obtain ⟨σ7, H7, I7, n7⟩ := q7; exact again I7 n7
    | cont => obtain ⟨σ7, H7, I7, n7⟩ := q7; exact again I7 n7
    | brk => obtain ⟨σ7, H7, I7, q7⟩ := q7; exact ⟨σ7, H7, I7.unpinned, q7⟩
    | ret v => obtain ⟨x7, σ7, H7, I7, r7, q7⟩ := q7; exact ⟨x7, σ7, H7, I7.unpinned, r7, q7⟩
end

/-! ### the forms one uses -/
/-- over a list that the body leaves as it is -/
theorem for_list {K : PySem.W.Frag} {a : Addr} {xs : List V} {g : TG} {tb : TS} {D : Ends} {σ : St} {H : Hp} (Pv : Nat → St → Hp → Prop) (h0 : Pv 0 σ H) (hl : ∀ i σ H, i ≤ xs.length → Pv i σ H → SqL K H a xs)
    (hs : ∀ i x σ H, xs[i]? = some x → Pv i σ H → g x σ H fun σ2 H2 => tb { D with nx := Pv (i + 1), ct := Pv (i + 1), bk := D.nx } σ2 H2) (hd : ∀ σ H, Pv xs.length σ H → D.nx σ H) :
    ∃ W : Nat → Nat → St → Hp → Prop, (∃ m, W 0 m σ H) ∧ ∀ i m σ H, W i m σ H →
      ((Itl K a).stop i H ∧ D.nx σ H) ∨ ((Itl K a).go i H ∧ ∃ N : St → Hp → Prop, (∀ σ' H', N σ' H' → ∃ m', m' < m ∧ W (i + 1) m' σ' H') ∧ ∀ x H', (Itl K a).yld i H x H' → g x σ H' fun σ2 H2 => tb { D with nx := N, ct := N, bk := D.nx } σ2 H2) := by
  refine ⟨fun i m σ H => m = xs.length - i ∧ i ≤ xs.length ∧ Pv i σ H, ⟨xs.length, by simp, Nat.zero_le _, h0⟩, ?_⟩
  rintro i m σ H ⟨rfl, hi, p⟩
  have q := hl i σ H hi p
  by_cases hlt : i < xs.length
  · refine .inr ⟨⟨xs, xs[i], q, by simp [hlt]⟩, Pv (i + 1), fun σ' H' p' => ⟨xs.length - (i + 1), by omega, rfl, hlt, p'⟩, fun x H' y => ?_⟩
    obtain ⟨e, y⟩ := y
    subst e
    exact hs i x σ _ (y xs q) p
  · have e : i = xs.length := by omega
    subst e
    exact .inl ⟨⟨xs, q, Nat.le_refl _⟩, hd σ H p⟩
theorem for_range {lo : Int} {n : Nat} {g : TG} {tb : TS} {D : Ends} {σ : St} {H : Hp} (Pv : Nat → St → Hp → Prop) (h0 : Pv 0 σ H)
    (hs : ∀ i σ H, i < n → Pv i σ H → g (.int (lo + i)) σ H fun σ2 H2 => tb { D with nx := Pv (i + 1), ct := Pv (i + 1), bk := D.nx } σ2 H2) (hd : ∀ σ H, Pv n σ H → D.nx σ H) :
    ∃ W : Nat → Nat → St → Hp → Prop, (∃ m, W 0 m σ H) ∧ ∀ i m σ H, W i m σ H →
      ((Itr lo n).stop i H ∧ D.nx σ H) ∨ ((Itr lo n).go i H ∧ ∃ N : St → Hp → Prop, (∀ σ' H', N σ' H' → ∃ m', m' < m ∧ W (i + 1) m' σ' H') ∧ ∀ x H', (Itr lo n).yld i H x H' → g x σ H' fun σ2 H2 => tb { D with nx := N, ct := N, bk := D.nx } σ2 H2) := by
  refine ⟨fun i m σ H => m = n - i ∧ i ≤ n ∧ Pv i σ H, ⟨n, by simp, Nat.zero_le _, h0⟩, ?_⟩
  rintro i m σ H ⟨rfl, hi, p⟩
  by_cases hlt : i < n
  · refine .inr ⟨hlt, Pv (i + 1), fun σ' H' p' => ⟨n - (i + 1), by omega, rfl, hlt, p'⟩, fun x H' y => ?_⟩
    obtain ⟨e, y⟩ := y
    subst e y
    exact hs i σ _ hlt p
  · have e : i = n := by omega
    subst e
    exact .inl ⟨Nat.le_refl _, hd σ H p⟩
end L2

namespace L2
open PySem PySem.Spec PyProof.Rows

abbrev R2 := V → V → Hp → VK → Prop
/-- a two-place operation on values: f is binaryOp op, inplaceOp op or compareOp op -/
def OpR (X : Cx) (f : Value → Value → Sem Value) (r : R2) : Prop :=
  ∀ (pins : List (Addr × Obj)) (s : Shared) (σ : St) (H : Hp) (x y : V) (v u : Value) (Q : VK), Inv X pins σ H s → RelV x v → RelV y u → r x y H Q →
    wpAny (model X.prog X.w) X.A (f v u) (EP X pins σ Q) X.xe s
/-- a call of a value that is known (a builtin, a type) with values -/
def CallR (X : Cx) (f : Value) (r : List V → Hp → VK → Prop) : Prop :=
  ∀ (pins : List (Addr × Obj)) (s : Shared) (σ : St) (H : Hp) (xs : List V) (us : List Value) (Q : VK), Inv X pins σ H s → Vals xs us → r xs H Q →
    wpAny (model X.prog X.w) X.A (call f us) (EP X pins σ Q) X.xe s
def tOp (r : R2) (ta tb : TE) : TE := fun σ H Q => ta σ H fun x H1 => tb σ H1 fun y H2 => r x y H2 Q
/-- ints in, under C, and a value out -/
def rI (C : Int → Int → Prop) (g : Int → Int → V) : R2 := fun x y H Q => ∃ i j, x = .int i ∧ y = .int j ∧ C i j ∧ Q (g i j) H
def rI0 (g : Int → Int → V) : R2 := fun x y H Q => ∃ i j, x = .int i ∧ y = .int j ∧ Q (g i j) H
section
variable {X : Cx} {a b c : Expr} {ta tb tc : TE} {pos : Pos}

theorem binT (ha : PE X a ta) (hb : PE X b tb) {pins : List (Addr × Obj)} {s : Shared} {σ : St} {H : Hp} {R : V → V → Hp → Prop} (I : Inv X pins σ H s)
    (h : ta σ H fun x H1 => tb σ H1 fun y H2 => R x y H2) {Q : Value → Shared → Prop} {f : Value → Value → Sem Value}
    (hf : ∀ v u s2 x y H2, Inv X pins σ H2 s2 → RelV x v → RelV y u → R x y H2 → wpAny (model X.prog X.w) X.A (f v u) Q X.xe s2) :
    wpAny (model X.prog X.w) X.A (eval a X.env) (fun v s₁ => wpAny (model X.prog X.w) X.A (eval b X.env) (fun u s₂ => wpAny (model X.prog X.w) X.A (f v u) Q X.xe s₂) X.xe s₁) X.xe s := by
  refine thn (ha pins s σ H _ I h) fun v s1 ⟨x, H1, I1, r1, q1⟩ => ?_
  refine thn (hb pins s1 σ H1 _ I1 q1) fun u s2 ⟨y, H2, I2, r2, q2⟩ => ?_
  exact hf v u s2 x y H2 I2 r1 r2 q2

theorem pe_op {op : Operator} {r : R2} (ho : OpR X (binaryOp op) r) (ha : PE X a ta) (hb : PE X b tb) : PE X (.BinOp a op b pos) (tOp r ta tb) := by
  intro pins s σ H Q I h
  exact wpAny_BinOp (binT ha hb I h fun v u s2 x y H2 I2 rx ry q => ho pins s2 σ H2 x y v u Q I2 rx ry q)
/-! ### ints -/
theorem opI {f : Value → Value → Sem Value} {C : Int → Int → Prop} {g : Int → Int → Int}
    (rule : ∀ (i j : Int) (t u : Tok) (s : Shared) (Q : Value → Shared → Prop) (E : Value → Shared → Prop), C i j → Q (.int (g i j) s.toks) { s with toks := s.toks + 1 } → wpAny (model X.prog X.w) X.A (f (.int i t) (.int j u)) Q E s) :
    OpR X f (rI C fun i j => .int (g i j)) := by
  intro pins s σ H x y v u Q I rx ry h
  obtain ⟨i, j, rfl, rfl, hc, q⟩ := h
  obtain ⟨t, rfl⟩ := rx
  obtain ⟨t', rfl⟩ := ry
  exact rule i j t t' s _ _ hc ⟨.int (g i j), H, I.tok _, ⟨_, rfl⟩, q⟩
theorem opI0 {f : Value → Value → Sem Value} {g : Int → Int → Int}
    (rule : ∀ (i j : Int) (t u : Tok) (s : Shared) (Q : Value → Shared → Prop) (E : Value → Shared → Prop), Q (.int (g i j) s.toks) { s with toks := s.toks + 1 } → wpAny (model X.prog X.w) X.A (f (.int i t) (.int j u)) Q E s) :
    OpR X f (rI0 fun i j => .int (g i j)) := by
  intro pins s σ H x y v u Q I rx ry h
  obtain ⟨i, j, rfl, rfl, q⟩ := h
  obtain ⟨t, rfl⟩ := rx
  obtain ⟨t', rfl⟩ := ry
  exact rule i j t t' s _ _ ⟨.int (g i j), H, I.tok _, ⟨_, rfl⟩, q⟩
theorem opB0 {f : Value → Value → Sem Value} {g : Int → Int → Bool}
    (rule : ∀ (i j : Int) (t u : Tok) (s : Shared) (Q : Value → Shared → Prop) (E : Value → Shared → Prop), Q (.bool (g i j)) s → wpAny (model X.prog X.w) X.A (f (.int i t) (.int j u)) Q E s) :
    OpR X f (rI0 fun i j => .bl (g i j)) := by
  intro pins s σ H x y v u Q I rx ry h
  obtain ⟨i, j, rfl, rfl, q⟩ := h
  obtain ⟨t, rfl⟩ := rx
  obtain ⟨t', rfl⟩ := ry
  exact rule i j t t' s _ _ ⟨.bl (g i j), H, I, rfl, q⟩

def CDiv (i j : Int) : Prop := 0 < j ∧ j < 1073741824
def CMul (i j : Int) : Prop := (-(2 ^ 64) < i ∧ i < 2 ^ 64) ∨ (-(2 ^ 64) < j ∧ j < 2 ^ 64)
theorem CMul.ok {i j : Int} (h : CMul i j) : IntMulOk i j := by
  rcases h with ⟨h1, h2⟩ | ⟨h1, h2⟩
  · exact .of_left (intBits_le_64 h1 h2)
  · exact .of_right (intBits_le_64 h1 h2)
theorem op_add : OpR X (binaryOp .Add) (rI0 fun i j => .int (i + j)) := opI0 fun _ _ _ _ _ _ _ q => add_int q
theorem op_mul : OpR X (binaryOp .Mult) (rI CMul fun i j => .int (i * j)) := opI fun _ _ _ _ _ _ _ hc q => mul_int q hc.ok
/-- // by a positive divisor -/
theorem op_fdiv : OpR X (binaryOp .FloorDiv) (rI CDiv fun i j => .int (i / j)) := opI fun i j _ _ _ _ _ hc q => by
  have h1 : (0 : Int) < j := hc.1
  have h2 : j < 1073741824 := hc.2
  exact floordiv_int (by omega) (by rw [Int.fdiv_eq_ediv_of_nonneg i (by omega)]; exact q) (.inl (PyProof.noPylong_small (by omega)))
/-- % by a positive divisor of any size -/
theorem op_mod : OpR X (binaryOp .Mod) (rI (fun _ j => 0 < j) fun i j => .int (i % j)) := opI fun i j _ _ _ _ _ hc q => by
  have h1 : (0 : Int) < j := hc
  exact mod_int' (by omega) (by rw [Int.fmod_eq_emod_of_nonneg i (by omega)]; exact q)
/-! ### bools among ints: n += (a < b) -/
end

/-! ### comparisons -/
/-- the scalars that == tells apart as data does -/
def scal : V → V → Bool
  | .non, .non => true | .non, .int _ => true | .int _, .non => true | .non, .bl _ => true | .bl _, .non => true | .non, .str _ => true | .str _, .non => true
  | .int _, .int _ => true | .bl _, .bl _ => true | .str _, .str _ => true | .byt _, .byt _ => true
  | .int _, .str _ => true | .str _, .int _ => true | .bl _, .str _ => true | .str _, .bl _ => true
  | _, _ => false
def rEq : R2 := fun x y H Q => scal x y = true ∧ Q (.bl (decide (x = y))) H
def rNe : R2 := fun x y H Q => scal x y = true ∧ Q (.bl (!decide (x = y))) H

theorem dec_int {i j : Int} : decide (V.int i = V.int j) = (i == j) := by
  rw [Bool.eq_iff_iff]
  simp
theorem dec_bl {i j : Bool} : decide (V.bl i = V.bl j) = (i == j) := by
  rw [Bool.eq_iff_iff]
  simp
theorem dec_str {i j : Str} : decide (V.str i = V.str j) = (i == j) := by
  rw [Bool.eq_iff_iff]
  simp
theorem dec_byt {i j : Array UInt8} : decide (V.byt i = V.byt j) = (i.toList == j.toList) := by
  rw [Bool.eq_iff_iff]
  cases i
  cases j
  simp

section
variable {X : Cx} {a b c : Expr} {ta tb tc : TE} {pos : Pos}
theorem fin_bl {pins : List (Addr × Obj)} {σ : St} {H : Hp} {s : Shared} {Q : VK} {k k' : Bool} (I : Inv X pins σ H s) (q : Q (.bl k) H) (e : k = k') : EP X pins σ Q (.bool k') s := by
  subst e
  exact ⟨.bl k, H, I, rfl, q⟩
theorem op_eq : OpR X (compareOp .Eq) rEq := by
  intro pins s σ H x y v u Q I rx ry h
  obtain ⟨hs, q⟩ := h
  cases x with
  | non =>
    cases rx
    cases y with
    | non => cases ry; exact PySem.EqNone.eq_none_none (fin_bl I q (by simp))
    | bl j => cases ry; exact PySem.EqNone.eq_none_bool (fin_bl I q (by simp))
    | int j => obtain ⟨t', rfl⟩ := ry; exact PySem.EqNone.eq_none_int (fin_bl I q (by simp))
    | str j => obtain ⟨t', rfl⟩ := ry; exact PySem.EqNone.eq_none_str (fin_bl I q (by simp))
    | _ => exact absurd (show false = true from hs) Bool.false_ne_true
  | bl i =>
    cases rx
    cases y with
    | non => cases ry; exact PySem.EqNone.eq_bool_none (fin_bl I q (by simp))
    | bl j => cases ry; exact eq_bool (fin_bl I q dec_bl)
    | str j => obtain ⟨t', rfl⟩ := ry; exact PySem.EqMixed.eq_bool_str (fin_bl I q (by simp))
    | _ => exact absurd (show false = true from hs) Bool.false_ne_true
  | int i =>
    obtain ⟨t, rfl⟩ := rx
    cases y with
    | non => cases ry; exact PySem.EqNone.eq_int_none (fin_bl I q (by simp))
    | int j => obtain ⟨t', rfl⟩ := ry; exact eq_int (fin_bl I q dec_int)
    | str j => obtain ⟨t', rfl⟩ := ry; exact PySem.EqMixed.eq_int_str (fin_bl I q (by simp))
    | _ => exact absurd (show false = true from hs) Bool.false_ne_true
  | str i =>
    obtain ⟨t, rfl⟩ := rx
    cases y with
    | non => cases ry; exact PySem.EqNone.eq_str_none (fin_bl I q (by simp))
    | bl j => cases ry; exact PySem.EqMixed.eq_str_bool (fin_bl I q (by simp))
    | int j => obtain ⟨t', rfl⟩ := ry; exact PySem.EqMixed.eq_str_int (fin_bl I q (by simp))
    | str j => obtain ⟨t', rfl⟩ := ry; exact eq_str (fin_bl I q dec_str)
    | _ => exact absurd (show false = true from hs) Bool.false_ne_true
  | byt i =>
    obtain ⟨t, rfl⟩ := rx
    cases y with
    | byt j => obtain ⟨t', rfl⟩ := ry; exact PySem.W.eq_bytes (fin_bl I q dec_byt)
    | _ => exact absurd (show false = true from hs) Bool.false_ne_true
  | _ => cases y <;> exact absurd (show false = true from hs) Bool.false_ne_true
theorem op_ne : OpR X (compareOp .NotEq) rNe := by
  intro pins s σ H x y v u Q I rx ry h
  obtain ⟨hs, q⟩ := h
  cases x with
  | non =>
    cases rx
    cases y with
    | non => cases ry; exact PySem.EqNone.ne_none_none (fin_bl I q (by simp))
    | bl j => cases ry; exact PySem.EqNone.ne_none_bool (fin_bl I q (by simp))
    | int j => obtain ⟨t', rfl⟩ := ry; exact PySem.EqNone.ne_none_int (fin_bl I q (by simp))
    | str j => obtain ⟨t', rfl⟩ := ry; exact PySem.EqNone.ne_none_str (fin_bl I q (by simp))
    | _ => exact absurd (show false = true from hs) Bool.false_ne_true
  | bl i =>
    cases rx
    cases y with
    | non => cases ry; exact PySem.EqNone.ne_bool_none (fin_bl I q (by simp))
    | bl j => cases ry; exact ne_bool (fin_bl I q (congrArg not dec_bl))
    | str j => obtain ⟨t', rfl⟩ := ry; exact PySem.EqMixed.ne_bool_str (fin_bl I q (by simp))
    | _ => exact absurd (show false = true from hs) Bool.false_ne_true
  | int i =>
    obtain ⟨t, rfl⟩ := rx
    cases y with
    | non => cases ry; exact PySem.EqNone.ne_int_none (fin_bl I q (by simp))
    | int j => obtain ⟨t', rfl⟩ := ry; exact ne_int (fin_bl I q (congrArg not dec_int))
    | str j => obtain ⟨t', rfl⟩ := ry; exact PySem.EqMixed.ne_int_str (fin_bl I q (by simp))
    | _ => exact absurd (show false = true from hs) Bool.false_ne_true
  | str i =>
    obtain ⟨t, rfl⟩ := rx
    cases y with
    | non => cases ry; exact PySem.EqNone.ne_str_none (fin_bl I q (by simp))
    | bl j => cases ry; exact PySem.EqMixed.ne_str_bool (fin_bl I q (by simp))
    | int j => obtain ⟨t', rfl⟩ := ry; exact PySem.EqMixed.ne_str_int (fin_bl I q (by simp))
    | str j => obtain ⟨t', rfl⟩ := ry; exact ne_str (fin_bl I q (congrArg not dec_str))
    | _ => exact absurd (show false = true from hs) Bool.false_ne_true
  | byt i =>
    obtain ⟨t, rfl⟩ := rx
    cases y with
    | byt j => obtain ⟨t', rfl⟩ := ry; exact PySem.W.ne_bytes (fin_bl I q (congrArg not dec_byt))
    | _ => exact absurd (show false = true from hs) Bool.false_ne_true
  | _ => cases y <;> exact absurd (show false = true from hs) Bool.false_ne_true

theorem op_lt : OpR X (compareOp .Lt) (rI0 fun i j => .bl (decide (i < j))) := opB0 fun _ _ _ _ _ _ _ q => lt_int q
theorem op_le : OpR X (compareOp .LtE) (rI0 fun i j => .bl (decide (i ≤ j))) := opB0 fun _ _ _ _ _ _ _ q => le_int q
theorem op_gt : OpR X (compareOp .Gt) (rI0 fun i j => .bl (decide (j < i))) := opB0 fun _ _ _ _ _ _ _ q => gt_int q
theorem nomark (b : Expr) {op : CmpOp} (h : op ≠ .In := by decide) (h2 : op ≠ .NotIn := by decide) : behindInMarks op b = false := by
  have e1 : (op == CmpOp.In) = false := by cases op <;> first | rfl | exact absurd rfl h
  have e2 : (op == CmpOp.NotIn) = false := by cases op <;> first | rfl | exact absurd rfl h2
  cases b <;> simp [behindInMarks, e1, e2]
/-- a comparison as a value; hm: nomark b, or (for in, not in) by with_unfolding_all rfl -/
theorem pe_cmpR {op : CmpOp} {r : R2} (ho : OpR X (compareOp op) r) (ha : PE X a ta) (hb : PE X b tb) (hm : behindInMarks op b = false) : PE X (.Compare a [op] [b] pos) (tOp r ta tb) := by
  intro pins s σ H Q I h
  exact wpAny_Compare1 (binT ha hb I h fun v u s2 x y H2 I2 rx ry q => ho pins s2 σ H2 x y v u Q I2 rx ry q) hm
/-- a reading of a value as a test -/
def tTest (t : TE) : TT := fun σ H Q => t σ H fun x H' => ∃ k, x = .bl k ∧ Q k H'
theorem pt_cmpR {op : CmpOp} {r : R2} (ho : OpR X (compareOp op) r) (ha : PE X a ta) (hb : PE X b tb) (hm : behindInMarks op b = false) : PT X (.Compare a [op] [b] pos) (tTest (tOp r ta tb)) := by
  intro pins s σ H Q I h
  refine wpAny_isTrue_Compare1 (thn (ha pins s σ H _ I h) fun v s1 ⟨x, H1, I1, r1, q1⟩ => thn (hb pins s1 σ H1 _ I1 q1) fun u s2 ⟨y, H2, I2, r2, q2⟩ =>
    thn (ho pins s2 σ H2 x y v u _ I2 r1 r2 q2) fun c s3 ⟨z, H3, I3, r3, k, e, q3⟩ => ?_) hm
  subst e
  cases r3
  exact wpAny_truthy_bool ⟨H3, I3, q3⟩
/-- a op1 b op2 c -/
def tChain (r r' : R2) (ta tb tc : TE) : TE := fun σ H Q => ta σ H fun x H1 => tb σ H1 fun y H2 => r x y H2 fun z H3 => ∃ k, z = .bl k ∧
  (if k = true then tc σ H3 fun w' H4 => r' y w' H4 Q else Q (.bl false) H3)
theorem pt_chain {op op' : CmpOp} {r r' : R2} (ho : OpR X (compareOp op) r) (ho' : OpR X (compareOp op') r') (ha : PE X a ta) (hb : PE X b tb) (hc : PE X c tc)
    (hm : lastMarks [op, op'] [b, c] = false := by with_unfolding_all rfl) : PT X (.Compare a [op, op'] [b, c] pos) (tTest (tChain r r' ta tb tc)) := by
  intro pins s σ H Q I h
  refine isTrue_chain (thn (ha pins s σ H _ I h) fun v s1 ⟨x, H1, I1, r1, q1⟩ => test_link (thn (hb pins s1 σ H1 _ I1 q1) fun u s2 ⟨y, H2, I2, r2, q2⟩ =>
    thn (ho pins s2 σ H2 x y v u _ I2 r1 r2 q2) fun d s3 ⟨z, H3, I3, r3, k, e, q3⟩ => ?_)) hm
  subst e
  cases r3
  refine wpAny_truthy_bool ?_
  cases k with
  | false =>
    obtain ⟨k', e', q'⟩ := q3
    cases e'
    exact ite_ff ⟨H3, I3, q'⟩
  | true =>
    refine ite_tt (test_last (thn (hc pins s3 σ H3 _ I3 q3) fun w' s4 ⟨z', H4, I4, r4, q4⟩ => thn (ho' pins s4 σ H4 y z' u w' _ I4 r2 r4 q4) fun d' s5 ⟨z2, H5, I5, r5, k2, e2, q5⟩ => ?_))
    subst e2
    cases r5
    exact wpAny_truthy_bool ⟨H5, I5, q5⟩

/-! ### truth -/
theorem line63 : (sizeLine : Nat) < 2 ^ 63 := by rw [sizeLine_eq]; decide
/-! ### strs and bytes -/
/-! ### scalar builtins, by CallR -/
theorem vals1 {x : V} {us : List Value} (r : Vals [x] us) : ∃ u, us = [u] ∧ RelV x u := by
  cases r with
  | cons r1 r2 => cases r2; exact ⟨_, rfl, r1⟩
theorem vals2 {x y : V} {us : List Value} (r : Vals [x, y] us) : ∃ u w', us = [u, w'] ∧ RelV x u ∧ RelV y w' := by
  cases r with
  | cons r1 r2 =>
    cases r2 with
    | cons r3 r4 => cases r4; exact ⟨_, _, rfl, r1, r3⟩
theorem call_int1 : CallR X (.type "int") (fun xs H Q => (∃ i, xs = [.int i] ∧ Q (.int i) H) ∨ ∃ k, xs = [.bl k] ∧ Q (.int (if k then 1 else 0)) H) := by
  intro pins s σ H xs us Q I r h
  rcases h with ⟨i, rfl, q⟩ | ⟨k, rfl, q⟩
  · obtain ⟨u, rfl, t, rfl⟩ := vals1 r
    exact call_int_int ⟨.int i, H, I, ⟨_, rfl⟩, q⟩
  · obtain ⟨u, rfl, r1⟩ := vals1 r
    cases r1
    exact call_int_bool ⟨.int (if k then 1 else 0), H, I.tok _, ⟨_, rfl⟩, q⟩
end
end L2

namespace L2
open PySem PySem.Spec PyProof.Rows

/-! ### an instance, its attributes a map -/
structure ObjM (h : Heap) (x dx C : Addr) (mA : Str → Option Value) : Prop where
  obj : h.get? x = some (PySem.W.instObj C dx)
  ns : h.Ns1 dx mA
  ne : dx ≠ x

theorem lookIn_ns {h : Heap} {dx : Addr} {mA : Str → Option Value} (n : h.Ns1 dx mA) : ∃ od, h.get? dx = some od ∧ ∀ name, PySem.W.lookIn name od = some (mA name) := by
  obtain ⟨o, es, ep, ho, hd, hk, _, hm⟩ := n
  refine ⟨o, ho, fun name => ?_⟩
  have e := hm name
  unfold nsFind findBy at e
  rw [← Array.find?_toList] at e
  unfold PySem.W.lookIn
  rw [hd]
  dsimp only
  split
  · rename_i y q
    rw [q] at e
    exact congrArg some e
  · rename_i q
    rw [q] at e
    have a : es.toList.any (·.refKey) = false := by
      rw [List.any_eq_false]
      intro y hy
      obtain ⟨z, t, hkey⟩ := hk y (Array.mem_toList_iff.mp hy)
      simp [DictEntry.refKey, hkey]
    have a' : ¬ es.toList.any (·.refKey) = true := by rw [a]; exact Bool.false_ne_true
    rw [if_neg a']
    exact congrArg some e

theorem ObjM.look {h : Heap} {x dx C : Addr} {mA : Str → Option Value} (I : ObjM h x dx C mA) : ∃ od, PySem.W.InstAt h x (PySem.W.instObj C dx) C (some od) ∧ ∀ name, PySem.W.lookIn name od = some (mA name) :=
  let ⟨od, ho, hl⟩ := lookIn_ns I.ns
  ⟨od, ⟨I.obj, rfl, rfl, ho⟩, hl⟩

section
variable {prog : Program} {w : World} {A : Around} {E : Value → Shared → Prop} {s : Shared} {K : PySem.W.Frag} {x dx C f : Addr} {mA : Str → Option Value} {name : Str} {v : Value}

theorem get_map {expr : Bool} {Q : Value → Shared → Prop} (X : K.In s.heap) (I : ObjM s.heap x dx C mA) (hg : PySem.W.plainGet K C name = true) (hh : PySem.W.hasDictIn K C = true)
    (ha : PySem.W.findIn K (.ref C) name = some none) (hv : mA name = some v) (hv' : PySem.W.handedIn v = true) (h : Q v { s with toks := s.toks + 1 }) :
    wpAny (model prog w) A (getAttr (.ref x) name expr) Q E s := by
  obtain ⟨od, J, hl⟩ := I.look
  exact PySem.W.get_value X J (PySem.W.plainGet_of hg).1 (PySem.W.findObj_own hh ha rfl (by rw [hl, hv])) hv' h

theorem set_map {ns : List Str} {Q : Unit → Shared → Prop} (X : K.In s.heap) (I : ObjM s.heap x dx C mA)
    (hs : PySem.W.findIn K (.ref C) "__setattr__" = some (some (.builtin "object.__setattr__"))) (hp : PySem.W.plainOver K C = true) (ht : PySem.W.takerIn K C name = some none) (hh : PySem.W.hasDictIn K C = true)
    (hw : PySem.Within mA ns) (hsz : ns.length ≤ sizeLine)
    (h : ∀ h', ObjM h' x dx C (fun y => if y = name then some v else mA y) → Heap.SameBut dx s.heap h' → Q () { s with heap := h', toks := s.toks + 2 }) :
    wpAny (model prog w) A (setAttr (.ref x) name v) Q E s := by
  obtain ⟨od, J, hl⟩ := I.look
  refine PySem.W.set_plain X J hs (PySem.W.osa_open (s := { s with toks := s.toks + 1 }) (r := none) X J hp ht fun b => ?_)
  obtain ⟨cd, hc, hd'⟩ := PySem.W.any_some hh
  have hx : s.heap.get? x = some ⟨.ref C, some dx, .plain, #[]⟩ := I.obj
  refine wpAny_bind (wpAny_pure (wpAny_bind (wpAny_bind (wpAny_loadPart hx (wpAny_bind (PySem.W.Looks.here (s := { s with toks := s.toks + 1 }) (PySem.W.looks_clsIn X hc) ?_))))))
  rw [hd']
  refine wpAny_pure (a := some dx) (wpAny_bind (wpAny_pure (wpAny_bind ?_)))
  refine wpAny_nsSet1 (s := { s with toks := s.toks + 1 }) I.ns fun h' hn2 hs2 => ?_
  obtain ⟨oD, esD, epD, hoD, hdD, hcD⟩ := hn2.count (PySem.Within.cons name v hw)
  refine wpAny_bind (wpAny_lookBehind hoD (by rw [hdD]; exact pastItsLine_dict (Nat.le_trans hcD (by rw [List.length_cons]; omega))) ?_)
  exact wpAny_pure (h _ ⟨(hs2.2 _ (Ne.symm I.ne)).trans I.obj, hn2, I.ne⟩ hs2)

/-- C(..): the dict at the heap's end, the instance behind it; then its __init__ -/
theorem make_map {R : Result → Shared → Prop} {vs : List Value} {kw : List (Str × Value)} (X : K.In s.heap) (hm : PySem.W.makesIn K C = true)
    (hi : PySem.W.findIn K (.ref C) "__init__" = some (some (.ref f))) (hf : PySem.W.typeIn K (.ref f) = some (.type "function"))
    (h : codeAny (model prog w) (A.under (.builtin "type.__call__" ⟨.ref C :: vs, kw⟩)) (.call (.ref f) ⟨.ref (s.heap.objs.size + 1) :: vs, kw⟩) (PySem.W.InitBack (s.heap.objs.size + 1) R)
      { s with heap := (s.heap.push PySem.W.emptyDict).push (PySem.W.instObj C s.heap.objs.size) }) :
    codeAny (model prog w) A (.call (.ref C) ⟨vs, kw⟩) R s := by
  obtain ⟨hh, g, d, t, os⟩ := s
  exact PySem.W.make_core (PySem.W.makes_of X hm) (PySem.W.looks_findIn X hi) (fun self => PySem.W.bind_fn X self hf) (.inl rfl) h
end

/-! ### the attributes as a list of pairs -/
def putF (f : Str) (v : V) : List (Str × V) → List (Str × V)
  | [] => [(f, v)]
  | (g, x) :: r => if g = f then (g, v) :: r else (g, x) :: putF f v r
theorem lookup_putF (f g : Str) (v : V) : ∀ fs : List (Str × V), (putF f v fs).lookup g = if g = f then some v else fs.lookup g
  | [] => by
    show List.lookup g [(f, v)] = _
    by_cases h : g = f
    · have hb : (g == f) = true := beq_iff_eq.mpr h
      simp only [List.lookup, hb, if_pos h]
    · have hb : (g == f) = false := beq_eq_false_iff_ne.mpr h
      simp only [List.lookup, hb, if_neg h]
  | (k, x) :: r => by
    have ih := lookup_putF f g v r
    rw [show putF f v ((k, x) :: r) = (if k = f then (k, v) :: r else (k, x) :: putF f v r) from rfl]
    by_cases hk : k = f
    · rw [if_pos hk]
      by_cases h : g = k
      · have hb : (g == k) = true := beq_iff_eq.mpr h
        simp only [List.lookup, hb, if_pos (h.trans hk)]
      · have hb : (g == k) = false := beq_eq_false_iff_ne.mpr h
        simp only [List.lookup, hb, if_neg (fun e : g = f => h (e.trans hk.symm))]
    · rw [if_neg hk]
      by_cases h : g = k
      · have hb : (g == k) = true := beq_iff_eq.mpr h
        simp only [List.lookup, hb, if_neg (fun e : g = f => hk (h.symm.trans e))]
      · have hb : (g == k) = false := beq_eq_false_iff_ne.mpr h
        simp only [List.lookup, hb]
        exact ih
theorem keys_putF (f : Str) (v : V) : ∀ fs : List (Str × V), f ∈ (putF f v fs).map (·.1) ∧ ∀ g, g ∈ fs.map (·.1) → g ∈ (putF f v fs).map (·.1)
  | [] => ⟨by simp [putF], fun g h => by simp at h⟩
  | (k, x) :: r => by
    obtain ⟨i1, i2⟩ := keys_putF f v r
    rw [show putF f v ((k, x) :: r) = (if k = f then (k, v) :: r else (k, x) :: putF f v r) from rfl]
    by_cases hk : k = f
    · rw [if_pos hk]
      subst hk
      exact ⟨by simp, fun g h => by simpa using h⟩
    · rw [if_neg hk]
      refine ⟨?_, fun g h => ?_⟩
      · rw [List.map_cons]
        exact List.mem_cons_of_mem _ i1
      · rw [List.map_cons] at h ⊢
        rcases List.mem_cons.mp h with e | e
        · exact List.mem_cons.mpr (.inl e)
        · exact List.mem_cons_of_mem _ (i2 g e)
theorem length_putF (f : Str) (v : V) : ∀ fs : List (Str × V), (putF f v fs).length ≤ fs.length + 1
  | [] => by simp [putF]
  | (k, x) :: r => by
    have ih := length_putF f v r
    rw [show putF f v ((k, x) :: r) = (if k = f then (k, v) :: r else (k, x) :: putF f v r) from rfl]
    by_cases hk : k = f
    · rw [if_pos hk, List.length_cons, List.length_cons]; omega
    · rw [if_neg hk, List.length_cons, List.length_cons]; omega

theorem RelO.some_of {v : V} {o : Option Value} (r : RelO (some v) o) : ∃ u, o = some u ∧ RelV v u := by
  cases o with
  | none => exact (show False from r).elim
  | some u => exact ⟨u, rfl, r⟩
theorem handed_of {v : V} {u : Value} (r : RelV v u) : PySem.W.handedIn u = true := by
  cases v with
  | non => cases (show u = Value.none from r); rfl
  | bl b => cases (show u = Value.bool b from r); rfl
  | int i => obtain ⟨t, e⟩ := (show ∃ t, u = Value.int i t from r); cases e; rfl
  | str x => obtain ⟨t, e⟩ := (show ∃ t, u = Value.str x t from r); cases e; rfl
  | byt b => obtain ⟨t, e⟩ := (show ∃ t, u = Value.bytes b t from r); cases e; rfl
  | flt b => obtain ⟨t, e⟩ := (show ∃ t, u = Value.float b t from r); cases e; rfl
  | ref a => cases (show u = Value.ref a from r); rfl
  | ty n => cases (show u = Value.type n from r); rfl

section
variable {P : Program} {w : World} {H H' : Hp} {h h' : Heap} {a C dx : Addr} {fs fs' : List (Str × V)}
theorem ins_get (hok : HOk P w H h) (e : H a = some (.ins C dx fs)) : ∃ mA, ObjM h a dx C mA ∧ (∀ f, RelO (fs.lookup f) (mA f)) ∧ PySem.Within mA (fs.map (·.1)) ∧ fs.length ≤ 1000 ∧ H dx = some (.own a) := by
  obtain ⟨d, z, ne, ob, mA, n, r, q⟩ := (show ObjOk P w H h a (.ins C dx fs) from hok a _ e)
  exact ⟨mA, ⟨ob, n, ne⟩, r, q, z, d⟩
end

/-! ### what of the text a class must have -/
structure Cls (K : PySem.W.Frag) (C : Addr) : Prop where
  pg : PySem.W.plainGet K C Str.empty = true
  hd : PySem.W.hasDictIn K C = true
  po : PySem.W.plainOver K C = true
  sa : PySem.W.findIn K (.ref C) "__setattr__" = some (some (.builtin "object.__setattr__"))
theorem Cls.get {K : PySem.W.Frag} {C : Addr} (c : Cls K C) (f : Str) : PySem.W.plainGet K C f = true := c.pg
/-- no class of it has the name -/
def NoAttr (K : PySem.W.Frag) (C : Addr) (f : Str) : Prop := PySem.W.findIn K (.ref C) f = some none
theorem NoAttr.taker {K : PySem.W.Frag} {C : Addr} {f : Str} (n : NoAttr K C f) : PySem.W.takerIn K C f = some none := by
  unfold PySem.W.takerIn
  rw [show PySem.W.findIn K (.ref C) f = some none from n]
  rfl
/-- a method: a plain def of the class or of one above it -/
structure Meth (K : PySem.W.Frag) (C : Addr) (m : Str) (f : Addr) : Prop where
  at_ : PySem.W.findIn K (.ref C) m = some (some (.ref f))
  fn : PySem.W.isFn K (.ref f) = true
  kp : PySem.W.keepIn K (.ref f) = true

section
variable {X : Cx} {pins : List (Addr × Obj)} {σ : St} {H : Hp} {s : Shared} {a C dx : Addr} {fs : List (Str × V)} {f : Str} {v : V} {A : Around} {E : Value → Shared → Prop}

theorem getattr_ok {b : Bool} {Q : Value → Shared → Prop} (I : Inv X pins σ H s) (e : H a = some (.ins C dx fs)) (c : Cls X.K C) (n : NoAttr X.K C f) (l : fs.lookup f = some v)
    (h : ∀ u s', Inv X pins σ H s' → RelV v u → Q u s') : wpAny (model X.prog X.w) A (getAttr (.ref a) f b) Q E s := by
  obtain ⟨mA, O, r, _, _, _⟩ := ins_get I.hok e
  obtain ⟨u, hu, ru⟩ := RelO.some_of (v := v) (o := mA f) (by rw [← l]; exact r f)
  exact get_map I.kIn O (c.get f) c.hd n hu (handed_of ru) (h u _ (I.tok _) ru)

theorem setattr_ok {y : V} {u : Value} {Q : Unit → Shared → Prop} (I : Inv X pins σ H s) (e : H a = some (.ins C dx fs)) (c : Cls X.K C) (n : NoAttr X.K C f) (hl : fs.length < 1000) (ry : RelV y u)
    (h : ∀ s', Inv X pins σ (upd H a (.ins C dx (putF f y fs))) s' → Q () s') : wpAny (model X.prog X.w) A (setAttr (.ref a) f u) Q E s := by
  obtain ⟨mA, O, r, wi, _, ho⟩ := ins_get I.hok e
  have hz : (fs.map (·.1)).length ≤ sizeLine := by rw [List.length_map, sizeLine_eq]; omega
  refine set_map I.kIn O c.sa c.po n.taker c.hd wi hz fun h' O' sb => h _ ?_
  have hd : ∃ o, h'.get? dx = some o := let ⟨o, _, _, e', _⟩ := O'.ns; ⟨o, e'⟩
  refine I.write (x := a) (e := dx) (by rw [e]; exact True.intro) (.inr ho) (fun b q hb z => (sb.2 b hb).trans z) hd ?_
  refine ⟨by rw [upd_ne O.ne]; exact ho, ?_, O.ne, O'.obj, _, O'.ns, fun g => ?_, fun g hg => ?_⟩
  · have := length_putF f y fs; omega
  · show RelO ((putF f y fs).lookup g) (if g = f then some u else mA g)
    rw [lookup_putF]
    by_cases q : g = f
    · rw [if_pos q, if_pos q]; exact ry
    · rw [if_neg q, if_neg q]; exact r g
  · by_cases q : g = f
    · rw [q]; exact (keys_putF f y fs).1
    · refine (keys_putF f y fs).2 g (wi g fun z => hg ?_)
      show (if g = f then some u else mA g) = none
      rw [if_neg q]; exact z

/-- a new instance, tracked, without attributes -/
theorem Inv.made (I : Inv X pins σ H s) : Inv X pins σ (upd (upd H s.heap.objs.size (.own (s.heap.objs.size + 1))) (s.heap.objs.size + 1) (.ins C s.heap.objs.size []))
    { s with heap := (s.heap.push PySem.W.emptyDict).push (PySem.W.instObj C s.heap.objs.size) } := by
  have e1 : (s.heap.push PySem.W.emptyDict).get? s.heap.objs.size = some PySem.W.emptyDict := Heap.get?_push_size s.heap rfl
  have e2 : ((s.heap.push PySem.W.emptyDict).push (PySem.W.instObj C s.heap.objs.size)).get? (s.heap.objs.size + 1) = some (PySem.W.instObj C s.heap.objs.size) := by
    have := Heap.get?_push_size (s.heap.push PySem.W.emptyDict) (o := PySem.W.instObj C s.heap.objs.size) rfl
    rwa [Heap.size_push] at this
  have e3 : (s.heap.push PySem.W.emptyDict).Ns s.heap.objs.size (fun _ => none) := ⟨PySem.W.emptyDict, #[], _, e1, rfl, (fun e he => absurd he (by simp)), fun _ => rfl⟩
  have I1 := I.laid (a := s.heap.objs.size) (o := .own (s.heap.objs.size + 1)) (h' := s.heap.push PySem.W.emptyDict) (t' := s.toks) (fun b u q => Heap.get?_push_of_some _ q) (Nat.le_refl _) ⟨_, e1⟩
  refine I1.laid (a := s.heap.objs.size + 1) (o := .ins C s.heap.objs.size []) (t' := s.toks) (fun b u q => Heap.get?_push_of_some _ q) (Nat.le_of_eq (Heap.size_push _ _)) ?_
  have ne : s.heap.objs.size ≠ s.heap.objs.size + 1 := Nat.ne_of_lt (Nat.lt_succ_self _)
  refine ⟨by rw [upd_ne ne, upd_same], Nat.zero_le _, ne, e2, fun _ => none, (Heap.Ns1.of_empty e3).at fun o q => Heap.get?_push_of_some _ q, fun _ => True.intro, fun y hy => absurd rfl hy⟩

/-- e.f where nothing but the object is asked: through attributeBase (super) and the last hold -/
theorem attr_of {prog : Program} {w : World} {env : Env} {e : Expr} {f : Str} {pos : Pos} {s : Shared} {Q : Value → Shared → Prop} (hb : attributeBase e f env (eval e env) = eval e env)
    (h : wpAny (model prog w) A (eval e env) (fun o s₁ => wpAny (model prog w) A (getAttr o f true) Q E s₁) E s) : wpAny (model prog w) A (eval (.Attribute e f pos) env) Q E s :=
  Attribute_any_ h (by rw [arm_eval_Attribute, hb])
end

/-! ### readings and rules -/
/-- e.f, an attribute of the instance -/
def tFld (K : PySem.W.Frag) (ta : TE) (f : Str) : TE := fun σ H Q => ta σ H fun x H1 => ∃ a C dx fs v, x = .ref a ∧ H1 a = some (.ins C dx fs) ∧ Cls K C ∧ NoAttr K C f ∧ fs.lookup f = some v ∧ Q v H1
/-- e.f = value -/
def sFld (K : PySem.W.Frag) (ta tv : TE) (f : Str) : TS := fun D σ H => tv σ H fun y H1 => ta σ H1 fun x H2 => ∃ a C dx fs, x = .ref a ∧ H2 a = some (.ins C dx fs) ∧ Cls K C ∧ NoAttr K C f ∧ fs.length < 1000 ∧
  D.nx σ (upd H2 a (.ins C dx (putF f y fs)))
section
variable {X : Cx} {o e value : Expr} {f : Str} {pos pos' tpos : Pos} {ta tv : TE}
theorem pe_fld (he : PE X e ta) (hb : attributeBase e f X.env (eval e X.env) = eval e X.env) : PE X (.Attribute e f pos) (tFld X.K ta f) := by
  intro pins s σ H Q I h
  refine attr_of hb (thn (he pins s σ H _ I h) fun u s1 ⟨x, H1, I1, rx, a, C, dx, fs, v, ex, ea, c, n, l, q⟩ => ?_)
  subst ex
  obtain rfl : u = Value.ref a := rx
  exact getattr_ok I1 ea c n l fun u' s2 I2 ru => ⟨v, H1, I2, ru, q⟩
theorem ps_fld (ha : PE X o ta) (hv : PE X value tv) (hs : swapsWith value (some (.Attribute o f pos')) pos.line X.env = pure false) : PS X (.Assign [.Attribute o f pos'] value pos) (sFld X.K ta tv f) := by
  intro pins s σ H D I h
  refine plainObj_wpAny_Assign_Attribute (thn (hv pins s σ H _ I h) fun u s1 ⟨y, H1, I1, ry, q⟩ => thn (ha pins s1 σ H1 _ I1 q) fun ov s2 ⟨x, H2, I2, rx, a, C, dx, fs, ex, ea, c, n, l, q2⟩ => ?_) hs
  subst ex
  obtain rfl : ov = Value.ref a := rx
  exact setattr_ok I2 ea c n l ry fun s3 I3 => ⟨σ, _, I3, q2⟩
end

/-! ### isinstance -/
section
variable {X : Cx} {pins : List (Addr × Obj)} {σ : St} {H : Hp} {s : Shared} {A : Around} {E : Value → Shared → Prop} {Q : Value → Shared → Prop} {c : Value} {b : Bool}
/-- the type of a value, as the fragment's deciders take it; for an instance its class -/
inductive TyOf (K : PySem.W.Frag) (H : Hp) : V → Value → Prop where
  | non : TyOf K H .non (.type "NoneType")
  | bl (x : Bool) : TyOf K H (.bl x) (.type "bool")
  | int (i : Int) : TyOf K H (.int i) (.type "int")
  | str (x : Str) : TyOf K H (.str x) (.type "str")
  | flt (x : UInt64) : TyOf K H (.flt x) (.type "float")
  | lst {a : Addr} {xs : List V} (e : H a = some (.lst xs)) : TyOf K H (.ref a) (.type "list")
  | frz {a : Addr} {o : Obj} {xs : List V} (e : H a = some (.frz o (.lst xs))) : TyOf K H (.ref a) (.type "list")
  | tup {a : Addr} {xs : List V} (e : H a = some (.tup xs)) : TyOf K H (.ref a) (.type "tuple")
  | dK {a : Addr} {kvs : List (Key × V)} (e : H a = some (.dK kvs)) : TyOf K H (.ref a) (.type "dict")
  | dT {a : Addr} {kvs : List (List Key × V)} (e : H a = some (.dT kvs)) : TyOf K H (.ref a) (.type "dict")
  | ins {a C dx : Addr} {fs : List (Str × V)} (e : H a = some (.ins C dx fs)) (cl : Cls K C) (ha : PySem.W.findIn K (.ref C) "__class__" = some (some (.builtin "object.__class__")))
      (hn : PySem.W.specialIn K (.builtin "object.__class__") "__get__" = some (some (.builtin "getset_descriptor.__get__"))) (htk : PySem.W.takesIn K (.builtin "object.__class__") = some true)
      (hm : PySem.W.mroIn K C (.type "object") = some true) : TyOf K H (.ref a) (.ref C)
/-- isinstance(x, c) for one class c, a built-in or an own one: kitOne's answer -/
theorem isinst_ok {x : V} {u t : Value} (I : Inv X pins σ H s) (rx : RelV x u) (ty : TyOf X.K H x t) (e : PySem.W.kitOne X.K t c = some b) (h : ∀ tk, Q (.bool b) { s with toks := tk }) :
    wpAny (model X.prog X.w) A (call (.builtin "isinstance") [u, c]) Q E s := by
  cases ty with
  | non => cases (show u = Value.none from rx); exact PySem.W.kia_one PySem.W.kitx_none I.kIn True.intro e (fun z => nomatch z) h
  | bl y => cases (show u = Value.bool y from rx); exact PySem.W.kia_one PySem.W.kitx_bool I.kIn True.intro e (fun z => nomatch z) h
  | int i => obtain ⟨t, q⟩ := (show ∃ t, u = Value.int i t from rx); cases q; exact PySem.W.kia_one PySem.W.kitx_int I.kIn True.intro e (fun z => nomatch z) h
  | str y => obtain ⟨t, q⟩ := (show ∃ t, u = Value.str y t from rx); cases q; exact PySem.W.kia_one PySem.W.kitx_str I.kIn True.intro e (fun z => nomatch z) h
  | flt y => obtain ⟨t, q⟩ := (show ∃ t, u = Value.float y t from rx); cases q; exact PySem.W.kia_one PySem.W.kitx_float I.kIn True.intro e (fun z => nomatch z) h
  | @lst a xs ea =>
    cases (show u = Value.ref a from rx)
    obtain ⟨_, _, n, _, h1⟩ := (show ObjOk X.prog X.w H s.heap a (.lst xs) from I.hok a _ ea)
    exact PySem.W.kia_one PySem.W.kitx_list I.kIn ⟨_, h1, rfl⟩ e (fun z => nomatch z) h
  | @frz a ob xs ea =>
    cases (show u = Value.ref a from rx)
    obtain ⟨_, _, _, n, _, h1⟩ := (show ObjOk X.prog X.w H s.heap a (.frz ob (.lst xs)) from I.hok a _ ea)
    exact PySem.W.kia_one PySem.W.kitx_list I.kIn ⟨_, h1, rfl⟩ e (fun z => nomatch z) h
  | @tup a xs ea =>
    cases (show u = Value.ref a from rx)
    obtain ⟨_, _, _, p⟩ := (show ObjOk X.prog X.w H s.heap a (.tup xs) from I.hok a _ ea)
    obtain ⟨o, h1, h2, _⟩ := p
    exact PySem.W.kia_one PySem.W.kitx_tuple I.kIn ⟨o, h1, h2⟩ e (fun z => nomatch z) h
  | @dK a kvs ea =>
    cases (show u = Value.ref a from rx)
    obtain ⟨_, _, vs, _, p⟩ := (show ObjOk X.prog X.w H s.heap a (.dK kvs) from I.hok a _ ea)
    obtain ⟨o, es, ep, h1, h2, _⟩ := p
    exact PySem.W.kia_one PySem.W.kitx_dict I.kIn ⟨o, h1, h2.1⟩ e (fun z => nomatch z) h
  | @dT a kvs ea =>
    cases (show u = Value.ref a from rx)
    obtain ⟨_, _, xs, _, o, es, ep, h1, h2, _⟩ := (show ObjOk X.prog X.w H s.heap a (.dT kvs) from I.hok a _ ea)
    exact PySem.W.kia_one PySem.W.kitx_dict I.kIn ⟨o, h1, h2.1⟩ e (fun z => nomatch z) h
  | @ins a C dx fs ea cl ha hn htk hm =>
    cases (show u = Value.ref a from rx)
    obtain ⟨mA, O, _⟩ := ins_get I.hok ea
    obtain ⟨od, J, _⟩ := O.look
    exact PySem.W.kia_one (PySem.W.kitx_own (cl.get _) cl.hd ha hn htk hm) I.kIn J e (fun z => nomatch z) h
end
end L2

namespace L2
open PySem PySem.Spec PyProof.Rows

/-! ### room -/
structure Room (k : Nat) (A : Around) : Prop where
  hd : A.handled = none
  dp : A.depth + 3 * k + 5 < recursionLimit
  un : A.units + 16 * k + 200 < cLine
theorem Room.mono {j k : Nat} {A : Around} (r : Room k A) (h : j ≤ k) : Room j A := ⟨r.hd, by have := r.dp; omega, by have := r.un; omega⟩
theorem Room.deeper {k : Nat} {A : Around} (r : Room (k + 1) A) (env : Env) : Room k (A.deeper env) :=
  ⟨r.hd, by have := r.dp; show A.depth + 1 + 3 * k + 5 < _; omega, by have := r.un; show A.units + 3 + 16 * k + 200 < _; omega⟩
theorem make_depth {A : Around} {C : Addr} {us : List Value} {kw : List (Str × Value)} : (A.under (.builtin "type.__call__" ⟨.ref C :: us, kw⟩)).depth = A.depth + 1 := by
  first | rfl | simp [Around.under, Code.weight, Code.isCreation, Code.isGuard, Code.isCaller, Code.frames, Code.isFrame, guardIds]
theorem make_units {A : Around} {C : Addr} {us : List Value} {kw : List (Str × Value)} : (A.under (.builtin "type.__call__" ⟨.ref C :: us, kw⟩)).units = A.units + 1 := by
  first | rfl | simp [Around.under, Code.cUnits, Code.frames, Code.isFrame]
theorem Room.make {k : Nat} {A : Around} (r : Room (k + 1) A) (C : Addr) (us : List Value) (kw : List (Str × Value)) : Room k (A.under (.builtin "type.__call__" ⟨.ref C :: us, kw⟩)) :=
  ⟨r.hd, by have := r.dp; rw [make_depth]; omega, by have := r.un; rw [make_units]; omega⟩
theorem Room.depth {k : Nat} {A : Around} (r : Room k A) : A.depth < recursionLimit := by have := r.dp; omega
theorem Room.units {k : Nat} {A : Around} (r : Room k A) : A.units + 64 < cLine := by have := r.un; omega
/-! ### argument lists and displays -/
def tNil : TA := fun _ H Q => Q [] H
def tCons (ta : TE) (tr : TA) : TA := fun σ H Q => ta σ H fun x H1 => tr σ H1 fun xs H2 => Q (x :: xs) H2
section
variable {X : Cx} {e : Expr} {es : List Expr} {te : TE} {t : TA} {pos : Pos}
theorem pa_nil : PA X [] tNil := fun _ _ _ _ H Q I h => Calls.spliced_nil ⟨[], H, I, .nil, h⟩
theorem pa_cons (ha : PE X e te) (hr : PA X es t) (hs : starEach (e :: es) X.env = (false, eval e X.env) :: starEach es X.env := by rfl) : PA X (e :: es) (tCons te t) := by
  intro pos pins s σ H Q I h
  rw [hs]
  show wpAny _ _ (spliced ((false, eval e X.env) :: backTo pos (starEach es X.env))) _ _ s
  refine Calls.spliced_cons (thn (ha pins s σ H _ I h) fun u s1 ⟨x, H1, I1, r1, q1⟩ => ?_)
  exact thn (hr pos pins s1 σ H1 _ I1 q1) fun us s2 ⟨xs, H2, I2, r2, q2⟩ => ⟨x :: xs, H2, I2, .cons r1 r2, q2⟩

/-- a tuple, a list of written items -/
def tTup (t : TA) : TE := fun σ H Q => t σ H fun xs H1 => xs.length ≤ sizeLine ∧ ∀ p, H1 p = none → Q (.ref p) (upd H1 p (.tup xs))
def tLst (t : TA) : TE := fun σ H Q => t σ H fun xs H1 => xs.length ≤ sizeLine ∧ ∀ p, H1 p = none → Q (.ref p) (upd H1 p (.lst xs))
theorem pe_tup {x1} (h : PA X es t) : PE X (.Tuple es x1 pos) (tTup t) := by
  intro pins s σ H Q I hq
  refine wpAny_Tuple_spliced (thn (h pos pins s σ H _ I hq) fun us s1 ⟨xs, H1, I1, r, z, q⟩ => ⟨by rw [← r.length]; exact z, ?_⟩)
  have hf : H1 s1.heap.objs.size = none := I1.hok.fresh (Nat.le_refl _)
  refine ⟨.ref s1.heap.objs.size, upd H1 s1.heap.objs.size (.tup xs), I1.laid (t' := s1.toks) (fun b u e => Heap.get?_push_of_some _ e) (Nat.le_refl _) ?_, rfl, q _ hf⟩
  exact ⟨z, us, r, ⟨_, Heap.get?_push_size _ rfl, rfl, _, rfl⟩⟩
theorem pe_lst (h : PA X es t) : PE X (.List es pos) (tLst t) := by
  intro pins s σ H Q I hq
  refine wpAny_List_spliced (thn (h pos pins s σ H _ I hq) fun us s1 ⟨xs, H1, I1, r, z, q⟩ => ⟨by rw [← r.length]; exact z, ?_⟩)
  have hf : H1 s1.heap.objs.size = none := I1.hok.fresh (Nat.le_refl _)
  refine ⟨.ref s1.heap.objs.size, upd H1 s1.heap.objs.size (.lst xs), I1.laid (t' := s1.toks) (fun b u e => Heap.get?_push_of_some _ e) (Nat.le_refl _) ?_, rfl, q _ hf⟩
  exact ⟨z, us, 0, r, Heap.get?_push_size _ rfl⟩
end

/-! ### what a def promises -/
/-- a def's promise: the bound arguments in the parameters' order, the heap, the wanted end, the wanted exception -/
abbrev Sp := List V → Hp → VK → XK → Prop
/-- how an exception lies behind a call (file 08 gives it): the callers' frames, abstract heap and state ahead of the call, the wish, the exception, the state -/
abbrev CXT := List Env → Hp → Shared → XK → Value → Shared → Prop

/-- the state at a call -/
structure Env0 (P : Program) (w : World) (K : PySem.W.Frag) (mg : Str → Option Value) (base : Heap) (A : Around) (outer : List Env) (s : Shared) (H : Hp) : Prop where
  frames : A.frames = some outer
  mod : Mod K mg base
  bs : ∀ b o, base.get? b = some o → s.heap.get? b = some o ∧ H b = none
  bsz : base.objs.size ≤ s.heap.objs.size
  funs : s.heap.FunFrames base outer
  frf : ∀ b ∈ frs outer, H b = none
  hok : HOk P w H s.heap
  bare : AllBare s.gens
/-- a call's end -/
def CE (outer : List Env) (P : Program) (w : World) (H : Hp) (s : Shared) (Q : VK) (u : Value) (s' : Shared) : Prop :=
  ∃ v H', s'.os = s.os ∧ AllBare s'.gens ∧ Un (frs outer) [] H H' s.heap s'.heap ∧ HOk P w H' s'.heap ∧ RelV v u ∧ Q v H'
def CR (CX : CXT) (outer : List Env) (P : Program) (w : World) (H : Hp) (s : Shared) (Q : VK) (E : XK) (r : Result) (s' : Shared) : Prop :=
  match r with
  | .ok (.ret u) => CE outer P w H s Q u s'
  | .ok _ => False
  | .error e => CX outer H s E e s'
structure FnOk (P : Program) (w : World) (K : PySem.W.Frag) (mg : Str → Option Value) (base : Heap) (CX : CXT) (k : Nat) (f : Addr) (fd : FuncData) (ps : List Str) (sp : Sp) : Prop where
  len : ∀ vs H Q E, sp vs H Q E → vs.length = ps.length
  run : ∀ (A : Around) (outer : List Env) (s : Shared) (H : Hp) (args : Args) (us : List Value) (vs : List V) (Q : VK) (E : XK), Room k A → Env0 P w K mg base A outer s H → BindsTo s fd args (ps.zip us) → Vals vs us → sp vs H Q E →
    codeAny (model P w) A (.call (.ref f) args) (CR CX outer P w H s Q E) s
theorem Env0.make {P : Program} {w : World} {K : PySem.W.Frag} {mg : Str → Option Value} {base : Heap} {A : Around} {outer : List Env} {s : Shared} {H : Hp} (e : Env0 P w K mg base A outer s H) (C : Addr) (us : List Value) (kw : List (Str × Value)) :
    Env0 P w K mg base (A.under (.builtin "type.__call__" ⟨.ref C :: us, kw⟩)) outer s H := ⟨by first | exact e.frames | (simpa [Around.under, Code.envs, Code.isFrame, pushEnvs] using e.frames), e.mod, e.bs, e.bsz, e.funs, e.frf, e.hok, e.bare⟩
section
variable {X : Cx} {pins : List (Addr × Obj)} {σ : St} {H : Hp} {s s' : Shared}
/-- from a body: what a callee wants -/
theorem Inv.env0 (I : Inv X pins σ H s) : Env0 X.prog X.w X.K X.mg X.base X.A X.stack s H :=
  ⟨I.ok.frames, I.ok.mod, I.bs, Nat.le_trans I.ok.bsz I.sz, I.stack, I.stkFree, I.hok, I.bare⟩
/-- behind a call -/
theorem Inv.after {Q : VK} {u : Value} (I : Inv X pins σ H s) (h : CE X.stack X.prog X.w H s Q u s') : EP X pins σ Q u s' := by
  obtain ⟨v, H', os, bare, un, hok, r, q⟩ := h
  obtain ⟨hh, g, d, t, os'⟩ := s'
  obtain rfl : os' = s.os := os
  exact ⟨v, H', I.call (h' := hh) (g' := g) (d' := d) (t' := t) (ch := []) un hok bare (fun b z => absurd z (by simp)), r, q⟩
end

/-! ### calls -/
/-- f(..): the written arguments, then the defaults dvs; E: what is wanted of an exception -/
def tCall (sp : Sp) (dvs : List V) (E : XK) (t : TA) : TE := fun σ H Q => t σ H fun vs H1 => sp (vs ++ dvs) H1 Q E
/-- C(..): a new instance and its dict, then __init__ -/
def tMake (C : Addr) (sp : Sp) (dvs : List V) (E : XK) (t : TA) : TE := fun σ H Q => t σ H fun vs H1 => ∀ x dx, H1 x = none → H1 dx = none → dx ≠ x →
  sp (.ref x :: (vs ++ dvs)) (upd (upd H1 dx (.own x)) x (.ins C dx [])) (fun v H2 => v = .non ∧ Q (.ref x) H2) E

/-- how the parameters are bound: us the positional arguments, kw the keywords' values by name, ds the defaults that fill up -/
def Binds (K : PySem.W.Frag) (fd : FuncData) (ps : List Str) (ds : List Value) : Prop :=
  ∀ (s : Shared) (us : List Value), K.In s.heap → (us ++ ds).length = ps.length → BindsTo s fd ⟨us, []⟩ (ps.zip (us ++ ds))
/-- every parameter is given -/
theorem Binds.all {K : PySem.W.Frag} {fd : FuncData} {ps : List Str} (h : ∀ us : List Value, us.length = ps.length → bindArgs fd ⟨us, []⟩ = pure (ps.zip us)) : Binds K fd ps [] := fun s us _ hl => by
  rw [List.append_nil] at hl ⊢
  exact .of_eq (h us hl)

/-- an exception of a callee reaches what this body wants of exceptions -/
def Passes (CX : CXT) (X : Cx) (E : XK) : Prop := ∀ (pins : List (Addr × Obj)) (σ : St) (H : Hp) (s : Shared) (e : Value) (s' : Shared), Inv X pins σ H s → CX X.stack H s E e s' → X.xe e s'

section
variable {X : Cx} {CX : CXT} {k : Nat} {f C : Addr} {fd : FuncData} {ps : List Str} {sp : Sp} {dvs : List V} {ds : List Value} {E : XK} {x m : Str} {p pos apos : Pos} {e o : Expr} {es : List Expr} {ta : TE} {t : TA}

/-- the callee runs -/
theorem run_fn {pins : List (Addr × Obj)} {σ : St} {H : Hp} {s : Shared} {Q : VK} {us : List Value} {vs : List V} (F : FnOk X.prog X.w X.K X.mg X.base CX k f fd ps sp) (hr : Room k X.A) (hb : Binds X.K fd ps ds) (hd : Vals dvs ds) (hx : Passes CX X E)
    (I : Inv X pins σ H s) (r : Vals vs us) (h : sp (vs ++ dvs) H Q E) : wpAny (model X.prog X.w) X.A (call (.ref f) us) (EP X pins σ Q) X.xe s := by
  have r2 : Vals (vs ++ dvs) (us ++ ds) := r.append hd
  have hl : (us ++ ds).length = ps.length := by rw [← r2.length]; exact F.len _ _ _ _ h
  refine wpAny_call (codeAny_mono (F.run X.A X.stack s H ⟨us, []⟩ (us ++ ds) (vs ++ dvs) Q E hr I.env0 (hb s us I.kIn hl) r2 h) fun r s' hq => ?_)
  cases r with
  | error e => exact hx pins σ H s e s' I hq
  | ok fl =>
    cases fl with
    | ret u => exact I.after hq
    | next => exact False.elim hq
    | brk => exact False.elim hq
    | cont => exact False.elim hq

theorem pe_call (F : FnOk X.prog X.w X.K X.mg X.base CX k f fd ps sp) (hr : Room k X.A) (hg : Gl X x) (hm : X.mg x = some (.ref f)) (hk : PySem.W.keepIn X.K (.ref f) = true) (hb : Binds X.K fd ps ds) (hd : Vals dvs ds) (hx : Passes CX X E)
    (ha : PA X (e :: es) t) (hdb : (x == ("__debug__" : Str)) = false := by decide) (he : starEach (e :: es) X.env = (false, eval e X.env) :: starEach es X.env := by rfl) (hpl : (backTo pos (starEach es X.env)).any (·.1) = false := by rfl) :
    PE X (.Call (.Name x p) (e :: es) [] pos) (tCall sp dvs E t) := by
  intro pins s σ H Q I h
  refine wpAny_Call_Name_kw (ld_glob I hg hm ?_ hdb)
  refine PySem.W.callWith_K (h₀ := X.base) I.ok.mod.kin hk (thn (ha pos pins s σ H _ I h) fun us s1 ⟨vs, H1, I1, r, q⟩ => ⟨I1.kIn, ?_⟩) he hpl
  exact run_fn F hr hb hd hx I1 r q
/-- what a class must have to be made -/
structure Mk (K : PySem.W.Frag) (C f : Addr) : Prop where
  makes : PySem.W.makesIn K C = true
  init : PySem.W.findIn K (.ref C) "__init__" = some (some (.ref f))
  fn : PySem.W.isFn K (.ref f) = true
  kp : PySem.W.keepIn K (.ref C) = true

theorem run_make {pins : List (Addr × Obj)} {σ : St} {H : Hp} {s : Shared} {Q : VK} {us : List Value} {vs : List V} (M : Mk X.K C f) (F : FnOk X.prog X.w X.K X.mg X.base CX k f fd ps sp) (hr : Room (k + 1) X.A) (hb : Binds X.K fd ps ds) (hd : Vals dvs ds)
    (hx : Passes CX X E) (I : Inv X pins σ H s) (r : Vals vs us)
    (h : ∀ x dx, H x = none → H dx = none → dx ≠ x → sp (.ref x :: (vs ++ dvs)) (upd (upd H dx (.own x)) x (.ins C dx [])) (fun v H2 => v = .non ∧ Q (.ref x) H2) E) :
    wpAny (model X.prog X.w) X.A (call (.ref C) us) (EP X pins σ Q) X.xe s := by
  have hq := h (s.heap.objs.size + 1) s.heap.objs.size (I.hok.fresh (Nat.le_succ _)) (I.hok.fresh (Nat.le_refl _)) (Nat.ne_of_lt (Nat.lt_succ_self _))
  have I2 := Inv.made (C := C) I
  have r2 : Vals (V.ref (s.heap.objs.size + 1) :: (vs ++ dvs)) (Value.ref (s.heap.objs.size + 1) :: (us ++ ds)) := .cons rfl (r.append hd)
  have hl : (Value.ref (s.heap.objs.size + 1) :: us ++ ds).length = ps.length := by
    have e := r2.length
    rw [F.len _ _ _ _ hq] at e
    exact e.symm
  refine wpAny_call (make_map (f := f) I.kIn M.makes M.init (beq_iff_eq.mp M.fn) (codeAny_mono (F.run _ X.stack _ _ ⟨Value.ref (s.heap.objs.size + 1) :: us, []⟩ (Value.ref (s.heap.objs.size + 1) :: (us ++ ds)) _ _ E (hr.make C us [])
    (I2.env0.make C us []) (hb _ (Value.ref (s.heap.objs.size + 1) :: us) I2.kIn hl) r2 hq) fun r s' hq' => ?_))
  cases r with
  | error e => exact hx pins σ _ _ e s' I2 hq'
  | ok fl =>
    cases fl with
    | ret u =>
      obtain ⟨v, H', I3, rv, ev, q3⟩ := I2.after hq'
      subst ev
      exact ⟨rv, ⟨V.ref (s.heap.objs.size + 1), H', I3, rfl, q3⟩⟩
    | next => exact False.elim hq'
    | brk => exact False.elim hq'
    | cont => exact False.elim hq'
theorem pe_make (M : Mk X.K C f) (F : FnOk X.prog X.w X.K X.mg X.base CX k f fd ps sp) (hr : Room (k + 1) X.A) (hg : Gl X x) (hm : X.mg x = some (.ref C)) (hb : Binds X.K fd ps ds) (hd : Vals dvs ds) (hx : Passes CX X E)
    (ha : PA X (e :: es) t) (hdb : (x == ("__debug__" : Str)) = false := by decide) (he : starEach (e :: es) X.env = (false, eval e X.env) :: starEach es X.env := by rfl) (hpl : (backTo pos (starEach es X.env)).any (·.1) = false := by rfl) :
    PE X (.Call (.Name x p) (e :: es) [] pos) (tMake C sp dvs E t) := by
  intro pins s σ H Q I h
  refine wpAny_Call_Name_kw (ld_glob I hg hm ?_ hdb)
  refine PySem.W.callWith_K (h₀ := X.base) I.ok.mod.kin M.kp (thn (ha pos pins s σ H _ I h) fun us s1 ⟨vs, H1, I1, r, q⟩ => ⟨I1.kIn, ?_⟩) he hpl
  exact run_make M F hr hb hd hx I1 r q
end

/-! ### keywords -/


/-! ### a def's body keeps its promise -/
/-- names: the parameters first -/
structure FnScope (N P : List Str) (sc : Scope) : Prop where
  kind : sc.kind = .function
  co : sc.isCoroutine = false
  gen : sc.isGenerator = false
  nd : N.Nodup
  pre : N.take P.length = P
  par : ∀ x ∈ P, sc.names.lookup x = some .local ∨ sc.names.lookup x = some .cell
  nofree : ∀ y ∈ sc.names, y.2 ≠ .free

theorem bindL_out {kindOf : Str → Option NameKind} {x : Str} : ∀ {binds : List (Str × Value)} {m : Str → Option Value}, (∀ v, (x, v) ∉ binds) → bindL kindOf binds m x = m x
  | [], _, _ => rfl
  | (n, v) :: r, m, h => by
    unfold bindL
    rw [bindL_out fun w hw => h w (List.mem_cons_of_mem _ hw)]
    split
    · have : x ≠ n := by rintro rfl; exact h v List.mem_cons_self
      simp [this]
    · rfl
theorem bindC_out {kindOf : Str → Option NameKind} {x : Str} : ∀ {binds : List (Str × Value)} {m : Str → Option Value}, (∀ v, (x, v) ∉ binds) → bindC kindOf binds m x = m x
  | [], _, _ => rfl
  | (n, v) :: r, m, h => by
    unfold bindC
    rw [bindC_out fun w hw => h w (List.mem_cons_of_mem _ hw)]
    split
    · rfl
    · have : x ≠ n := by rintro rfl; exact h v List.mem_cons_self
      simp [this]
theorem bindL_get {kindOf : Str → Option NameKind} {x : Str} {v : Value} : ∀ {P : List Str} {vs : List Value} {i : Nat} {m : Str → Option Value}, P.Nodup → P[i]? = some x → vs[i]? = some v → kindOf x = some .local →
    bindL kindOf (P.zip vs) m x = some v
  | [], _, _, _, _, h, _, _ => by simp at h
  | _ :: _, [], _, _, _, _, h, _ => by simp at h
  | p :: P, w :: vs, 0, m, nd, h1, h2, hk => by
    simp at h1 h2; subst h1; subst h2
    show bindL kindOf ((p, w) :: P.zip vs) m p = _
    unfold bindL
    rw [bindL_out fun v hv => (List.nodup_cons.mp nd).1 (List.of_mem_zip hv).1, if_pos hk]
    simp
  | p :: P, w :: vs, i + 1, m, nd, h1, h2, hk => by
    show bindL kindOf ((p, w) :: P.zip vs) m x = _
    unfold bindL
    exact bindL_get (i := i) (List.nodup_cons.mp nd).2 (by simpa using h1) (by simpa using h2) hk
theorem bindC_get {kindOf : Str → Option NameKind} {x : Str} {v : Value} : ∀ {P : List Str} {vs : List Value} {i : Nat} {m : Str → Option Value}, P.Nodup → P[i]? = some x → vs[i]? = some v → kindOf x ≠ some .local →
    bindC kindOf (P.zip vs) m x = some v
  | [], _, _, _, _, h, _, _ => by simp at h
  | _ :: _, [], _, _, _, _, h, _ => by simp at h
  | p :: P, w :: vs, 0, m, nd, h1, h2, hk => by
    simp at h1 h2; subst h1; subst h2
    show bindC kindOf ((p, w) :: P.zip vs) m p = _
    unfold bindC
    rw [bindC_out fun v hv => (List.nodup_cons.mp nd).1 (List.of_mem_zip hv).1, if_neg hk]
    simp
  | p :: P, w :: vs, i + 1, m, nd, h1, h2, hk => by
    show bindC kindOf ((p, w) :: P.zip vs) m x = _
    unfold bindC
    exact bindC_get (i := i) (List.nodup_cons.mp nd).2 (by simpa using h1) (by simpa using h2) hk

/-- the names' values at the entry -/
def start (N : List Str) (vs : List V) : St := vs.map some ++ List.replicate (N.length - vs.length) none

/-- the context of a def's body, at its entry; an exception leaves the frame, then lies as CX says -/
def cxOf (CX : CXT) (P : Program) (w : World) (K : PySem.W.Frag) (mg : Str → Option Value) (base : Heap) (N : List Str) (qual : Str) (scope : Scope) (f : Addr) (cd : Value) (A : Around) (outer : List Env) (s : Shared) (H : Hp) (E : XK) : Cx where
  prog := P
  w := w
  K := K
  mg := mg
  base := base
  A := A.deeper (envOfC qual scope s.heap.objs.size f cd)
  N := N
  s₀ := s
  H₀ := H
  env := envOfC qual scope s.heap.objs.size f cd
  outer := outer
  stack := envOfC qual scope s.heap.objs.size f cd :: outer
  ex := []
  calm := true
  fn := fun _ => true
  pn := []
  xe := fun e s' => wpAny (model P w) (A.deeper (envOfC qual scope s.heap.objs.size f cd)) (leaving (envOfC qual scope s.heap.objs.size f cd) e) (fun _ s'' => CX outer H s E e s'') (fun e' s'' => CX outer H s E e' s'') s'

theorem cell_has {sc : Scope} {n : Nat} {x : Str} (h : sc.names.lookup x = some .cell) : ∃ c, (cellsFrom n sc.names []).lookup x = some c := by
  have q := PySem.W.cellsFrom_some sc.names n [] (.inl h)
  exact Option.isSome_iff_exists.mp q

theorem inv_start {CX : CXT} {P : Program} {w : World} {K : PySem.W.Frag} {mg : Str → Option Value} {base : Heap} {N ps : List Str} {qual : Str} {scope : Scope} {f : Addr} {cd : Value} {A : Around} {outer : List Env} {s s1 : Shared} {H : Hp} {E : XK} {us : List Value} {vs : List V}
    (S : FnScope N ps scope) (hd : A.handled = none) (e0 : Env0 P w K mg base A outer s H) (hl : vs.length = ps.length) (r : Vals vs us)
    (x : InCallC s s.heap.objs.size (bindL (envOfC qual scope s.heap.objs.size f cd).kindOf (ps.zip us) fun _ => none) (cellsFrom (s.heap.objs.size + 1) scope.names []) (bindC (envOfC qual scope s.heap.objs.size f cd).kindOf (ps.zip us) fun _ => none) s1) :
    Inv (cxOf CX P w K mg base N qual scope f cd A outer s H E) [] (start N vs) H s1 := by
  have hpl : ps.length ≤ N.length := by have := congrArg List.length S.pre; rw [List.length_take] at this; omega
  obtain ⟨h1, tk, rfl, hk⟩ := x.done
  have noA : ∀ b : Addr, b ∉ (cxOf CX P w K mg base N qual scope f cd A outer s H E).ex := fun b z => absurd (show b ∈ ([] : List Addr) from z) (by simp)
  refine ⟨⟨e0.mod, S.kind, rfl, rfl, Nat.le_refl _, fun y z c h1 h2 => ?_, fun y hy => ?_, fun y c _ h => ?_, fun _ => hd, Around.frames_deeper e0.frames, .inr ⟨rfl, rfl⟩, fun b z => absurd z (noA b), e0.bs, e0.bsz, fun b _ _ => noA b, fun b z => absurd z (noA b), e0.funs, e0.frf⟩,
    rfl, e0.bare, Un.kept hk, ⟨_, x.toInCall.ns, fun i y v h1 h2 h3 => ?_⟩, fun y c h => ⟨_, x.cell y c h⟩, e0.hok.fresh (Nat.le_refl _), fun y c h => ?_, fun p hp => absurd (show p ∈ ([] : List (Addr × Obj)) from hp) (by simp), e0.hok.kept hk, ?_⟩
  · exact name_of_addr x.apart (PySem.mem_of_lookup h1) (PySem.mem_of_lookup h2)
  · have hy : scope.names.lookup y = some .cell ∨ scope.names.lookup y = some .free := hy
    rcases hy with hy | hy
    · exact cell_has hy
    · exact absurd rfl (S.nofree _ (PySem.mem_of_lookup hy))
  · exact Nat.le_of_lt (x.above y c (PySem.mem_of_lookup h))
  · have hi : i < vs.length := by
      unfold start at h2
      by_cases hi : i < vs.length
      · exact hi
      · rw [List.getElem?_append_right (by simpa using hi)] at h2
        rw [List.getElem?_replicate] at h2
        split at h2 <;> cases h2
    have ha : vs[i]? = some v := by
      unfold start at h2
      rw [List.getElem?_append_left (by simpa using hi), List.getElem?_map] at h2
      cases e : vs[i]? with
      | none => rw [e] at h2; cases h2
      | some a => rw [e] at h2; cases h2; rfl
    obtain ⟨u, hu, rv⟩ := r.get ha
    have hp : ps[i]? = some y := by
      rw [← S.pre, List.getElem?_take_of_lt (by omega)]; exact h1
    have ndP : ps.Nodup := by rw [← S.pre]; exact S.nd.sublist (List.take_sublist _ _)
    refine ⟨u, rv, ?_⟩
    rcases S.par y (List.mem_of_getElem? hp) with k | k
    · exact .inl ⟨k, bindL_get ndP hp hu k⟩
    · obtain ⟨c, e⟩ := cell_has (n := s.heap.objs.size + 1) k
      refine .inr ⟨.inl k, c, e, ?_⟩
      have q := x.cell y c e
      rw [bindC_get ndP hp hu (by show scope.names.lookup y ≠ _; rw [k]; decide)] at q
      exact q
  · exact e0.hok.fresh (Nat.le_of_lt (x.above y c (PySem.mem_of_lookup h)))
  · unfold start
    show _ = N.length
    rw [List.length_append, List.length_map, List.length_replicate]
    omega

/-- THE RULE: a def (or a method) of the text, by its body. The body's reading t is chosen for each entry; it is run at the parameters' values -/
theorem fn_of {CX : CXT} {P : Program} {w : World} {K : PySem.W.Frag} {mg : Str → Option Value} {base : Heap} {k : Nat} {f : Addr} {name qual : Str} {params : Arguments} {body : List Stmt} {scope : Scope} {dV kV doc pm cdv ct oc : Value} {an od : Option Addr}
    {osl : Array (Option Value)} {N ps : List Str} {sp : Sp} (lk : K.lookup f = some ⟨oc, od, .func (PySem.W.fnOf name qual params body scope dV kV doc pm an cdv ct), osl⟩) (hcd : PySem.W.codeIn K cdv qual = true) (S : FnScope N ps scope)
    (len : ∀ vs H Q E, sp vs H Q E → vs.length = ps.length)
    (hbody : ∀ (A : Around) (outer : List Env) (s : Shared) (H : Hp) (vs : List V) (Q : VK) (E : XK), Room k (A.deeper (envOfC qual scope s.heap.objs.size f cdv)) → sp vs H Q E →
      ∃ t, PSs (cxOf CX P w K mg base N qual scope f cdv A outer s H E) body t ∧ t { nx := fun _ H' => Q .non H', rt := Q } (start N vs) H) :
    FnOk P w K mg base CX (k + 1) f (PySem.W.fnOf name qual params body scope dV kV doc pm an cdv ct) ps sp := by
  refine ⟨len, fun A outer s H args us vs Q E hr e0 hb r hsp => ?_⟩
  have hl := len _ _ _ _ hsp
  have KX : K.In s.heap := e0.mod.kin.keeps fun b o e => (e0.bs b o e).1
  have lim : s.heap.NoLimit := e0.mod.nolimit.keeps fun b o e => (e0.bs b o e).1
  have hkind : ∀ y ∈ ps.zip us, scope.names.lookup y.1 = some .local ∨ (scope.names.lookup y.1 = some .cell ∧ ((cellsFrom (s.heap.objs.size + 1) scope.names []).lookup y.1).isSome = true) := fun ⟨n, v⟩ hy => by
    rcases S.par n (List.of_mem_zip hy).1 with q | q
    · exact .inl q
    · exact .inr ⟨q, PySem.W.cellsFrom_some _ _ _ (.inl q)⟩
  refine codeAny_call_function hr.depth (KX _ _ lk) rfl S.co S.gen rfl (PySem.W.codeRec_of KX hcd) (hb _ _ _ _ ?_)
  refine wpAny_newFunctionEnv_cells S.kind hkind fun env he s1 x => ?_
  subst he
  refine ⟨lim.keeps x.toInCall.keep, codeAny_func ?_⟩
  obtain ⟨t, ht, hq⟩ := hbody A outer s H vs Q E (hr.deeper _) hsp
  have I : Inv (cxOf CX P w K mg base N qual scope f cdv A outer s H E) [] (start N vs) H s1 := inv_start S hr.hd e0 hl r x
  refine wpAny_mono (ht [] s1 (start N vs) H _ I hq) (fun fl s' hs => ?_) fun e s' hs => hs
  have fin : ∀ {σ' : St} {H' : Hp} {v : V} {u : Value}, Inv (cxOf CX P w K mg base N qual scope f cdv A outer s H E) [] σ' H' s' → RelV v u → Q v H' → CE outer P w H s Q u s' :=
    fun {σ' H' v u} J rv q => ⟨v, H', J.os, J.bare, J.base, J.hok, rv, q⟩
  cases fl with
  | ret u =>
    obtain ⟨v, σ', H', J, rv, q⟩ := hs
    exact fin J rv q
  | next =>
    obtain ⟨σ', H', J, q⟩ := hs
    exact fin (v := V.non) (u := Value.none) J rfl q
  | brk =>
    obtain ⟨_, _, _, q⟩ := hs
    exact False.elim q
  | cont =>
    obtain ⟨_, _, _, q⟩ := hs
    exact False.elim q
end L2

namespace L2
open PySem PySem.Spec PyProof.Rows
section
variable {X : Cx} {x : Str} {p pos : Pos} {e : Expr} {es : List Expr} {t : TA} {id T : String} {r : List V → Hp → VK → Prop}

def tCB (r : List V → Hp → VK → Prop) (t : TA) : TE := fun σ H Q => t σ H fun vs H1 => r vs H1 Q
/-- f(e, ..), f a built-in function -/
theorem pe_callB (hc : CallR X (.builtin id) r) (hg : Gl X x) (hm : X.mg x = none) (hv : bootBuiltins x = some (.builtin id)) (ha : PA X (e :: es) t) (hn : x ≠ "__name__" := by decide) (hdb : (x == ("__debug__" : Str)) = false := by decide)
    (he : starEach (e :: es) X.env = (false, eval e X.env) :: starEach es X.env := by rfl) (hpl : (backTo pos (starEach es X.env)).any (·.1) = false := by rfl) : PE X (.Call (.Name x p) (e :: es) [] pos) (tCB r t) := by
  intro pins s σ H Q I h
  refine wpAny_Call_Name_kw (ld_blt I hg hm hv ?_ hn hdb)
  exact PyProof.Rows.callWith_builtin1 (thn (ha pos pins s σ H _ I h) fun us s1 ⟨vs, H1, I1, r1, q1⟩ => hc pins s1 σ H1 vs us Q I1 r1 q1) he hpl
/-- T(e, ..), T a built-in type -/
theorem pe_callTy (hc : CallR X (.type T) r) (hg : Gl X x) (hm : X.mg x = none) (hv : bootBuiltins x = some (.type T)) (ha : PA X (e :: es) t) (hn : x ≠ "__name__" := by decide) (hdb : (x == ("__debug__" : Str)) = false := by decide)
    (he : starEach (e :: es) X.env = (false, eval e X.env) :: starEach es X.env := by rfl) (hpl : (backTo pos (starEach es X.env)).any (·.1) = false := by rfl) : PE X (.Call (.Name x p) (e :: es) [] pos) (tCB r t) := by
  intro pins s σ H Q I h
  refine wpAny_Call_Name_kw (ld_blt I hg hm hv ?_ hn hdb)
  exact PyProof.Rows.callWith_type1 (thn (ha pos pins s σ H _ I h) fun us s1 ⟨vs, H1, I1, r1, q1⟩ => hc pins s1 σ H1 vs us Q I1 r1 q1) he hpl
end
end L2

namespace HT
open PySem PyProof.Rows

section
open PySem.SeqAt
open PySem.AutoSeq1 (wpAny_loadPart')
open PySem.MeetsSeq PySem.MeetsSeq2 PySem.MeetsSeq3

end

section
variable {prog : Program} {w : World} {A : Around} {E : Value → Shared → Prop} {s : Shared}

/-! ### t[a:b], not the whole -/
end
end HT

namespace L2
open PySem PySem.Spec PyProof.Rows

/-! ### the parts of a slice -/
theorem intsAre_of {ns : List Int} : ∀ {us : List Value}, Vals (ns.map V.int) us → IntsAre us ns := by
  induction ns with
  | nil => intro us r; rw [List.map_nil] at r; cases r; exact .nil
  | cons n ns ih =>
    intro us r
    rw [List.map_cons] at r
    cases r with
    | cons r1 r2 =>
      obtain ⟨t, e⟩ := r1
      subst e
      exact .cons n t (ih r2)

section
variable {X : Cx} {e : Expr} {te : TE} {lo hi : Option Expr} {tl th : TO} {pos p2 : Pos}

/-! ### t < u, t + u -/
end
end L2

namespace L2
open PySem PySem.Spec PyProof.Rows

/-! ### places -/
/-- the place that an index of any sign means -/
def ixN (n : Nat) (i : Int) : Option Nat := if 0 ≤ i then (if i < n then some i.toNat else none) else if -(n : Int) ≤ i then some (i + n).toNat else none
def atI {α : Type} (xs : List α) (i : Int) : Option α := (ixN xs.length i).bind fun j => xs[j]?
theorem ixN_seq {n : Nat} {i : Int} {j : Nat} (h : ixN n i = some j) : seqIndex? i n = some j ∧ j < n ∧ -(n : Int) ≤ i ∧ i < n := by
  unfold ixN at h
  by_cases h0 : 0 ≤ i
  · rw [if_pos h0] at h
    by_cases h1 : i < n
    · rw [if_pos h1] at h
      have e : i.toNat = j := Option.some.inj h
      exact ⟨by rw [seqIndex_of h0 h1, e], by omega, by omega, h1⟩
    · rw [if_neg h1] at h; cases h
  · rw [if_neg h0] at h
    by_cases h1 : -(n : Int) ≤ i
    · rw [if_pos h1] at h
      have e : (i + n).toNat = j := Option.some.inj h
      exact ⟨by rw [seqIndex_neg (by omega) h1, e], by omega, h1, by omega⟩
    · rw [if_neg h1] at h; cases h
theorem atI_get {α : Type} {xs : List α} {i : Int} {v : α} (h : atI xs i = some v) : ∃ j, seqIndex? i xs.length = some j ∧ xs[j]? = some v ∧ j < xs.length ∧ -(xs.length : Int) ≤ i ∧ i < xs.length := by
  unfold atI at h
  cases e : ixN xs.length i with
  | none => rw [e] at h; cases h
  | some j =>
    rw [e] at h
    obtain ⟨h1, h2, h3, h4⟩ := ixN_seq e
    exact ⟨j, h1, h, h2, h3, h4⟩
theorem atI_nat {α : Type} {xs : List α} {j : Nat} {v : α} (h : xs[j]? = some v) : atI xs (j : Int) = some v := by
  have hj : j < xs.length := (List.getElem?_eq_some_iff.mp h).1
  have e : ixN xs.length (j : Int) = some j := by
    unfold ixN
    rw [if_pos (by omega), if_pos (by omega)]; simp
  unfold atI; rw [e]; exact h
/-! ### what may be subscripted -/
/-- what stands as an index of a plain subscript -/
def PlainIx (b : Expr) : Prop := ∀ o i, subscripted b false o i = operate [o, i] (getItem o i)
/-- a subscript by values -/
def IxR (X : Cx) (r : R2) : Prop :=
  ∀ (value slice : Expr) (pins : List (Addr × Obj)) (s : Shared) (σ : St) (H : Hp) (x y : V) (v u : Value) (Q : VK), Inv X pins σ H s → RelV x v → RelV y u → r x y H Q →
    subscripted slice false v u = operate [v, u] (getItem v u) → wpAny (model X.prog X.w) X.A (subscriptTail value slice v u) (EP X pins σ Q) X.xe s
/-- a call of a builtin's method by values: the receiver, the arguments -/
def MtR (X : Cx) (id : String) (r : V → List V → Hp → VK → Prop) : Prop :=
  ∀ (pins : List (Addr × Obj)) (s : Shared) (σ : St) (H : Hp) (x : V) (xs : List V) (v : Value) (us : List Value) (Q : VK), Inv X pins σ H s → RelV x v → Vals xs us → r x xs H Q →
    wpAny (model X.prog X.w) X.A (call (.builtin id) (v :: us)) (EP X pins σ Q) X.xe s
section
variable {X : Cx} {a b : Expr} {ta tb : TE} {pos : Pos}
/-- a[b] -/
theorem pe_ix {r : R2} (hr : IxR X r) (ha : PE X a ta) (hb : PE X b tb) (hs : PlainIx b) : PE X (.Subscript a b pos) (tOp r ta tb) := by
  intro pins s σ H Q I h
  exact Subscript_ (binT ha hb I h fun v u s2 x y H2 I2 rx ry q => hr a b pins s2 σ H2 x y v u Q I2 rx ry q (hs _ _))

def rIxL (K : PySem.W.Frag) : R2 := fun x y H Q => ∃ p xs i v, x = .ref p ∧ y = .int i ∧ SqL K H p xs ∧ atI xs i = some v ∧ Q v H
def rIxT (K : PySem.W.Frag) : R2 := fun x y H Q => ∃ p xs i v, x = .ref p ∧ y = .int i ∧ SqT K H p xs ∧ atI xs i = some v ∧ Q v H
theorem ix_list : IxR X (rIxL X.K) := by
  intro value slice pins s σ H x y v u Q I rx ry h hs
  obtain ⟨p, xs, i, z, rfl, rfl, hq, he, q⟩ := h
  cases rx
  obtain ⟨t, rfl⟩ := ry
  obtain ⟨its, r, pl, hz⟩ := I.list hq
  obtain ⟨j, h1, h2, h3, h4, h5⟩ := atI_get he
  obtain ⟨w, ew, rw'⟩ := r.get h2
  have hl := r.length
  have hn := line63
  have fin : EP X pins σ Q w s := ⟨z, H, I, rw', q⟩
  by_cases h0 : 0 ≤ i
  · have hj : i.toNat = j := by
      rw [seqIndex_of h0 h5] at h1
      exact Option.some.inj h1
    exact item_listR pl.isList h0 (by omega) (by rw [hj]; simpa using ew) fin hs
  · have hj : (i + (its.toArray.size : Int)).toNat = j := by
      rw [seqIndex_neg (by omega) h4] at h1
      rw [List.size_toArray, ← hl]
      exact Option.some.inj h1
    exact subscriptTail_builtinR (x := w) pl.isList.typeIs slot_list_getitem.lookup
      (wpAny_getItem_list_neg (Q := fun r s' => r = w ∧ EP X pins σ Q r s') pl.isList (by omega) (by rw [List.size_toArray] <;> omega) (by omega) (by rw [hj]; simpa using ew) ⟨rfl, fin⟩) hs
theorem ix_tup : IxR X (rIxT X.K) := by
  intro value slice pins s σ H x y v u Q I rx ry h hs
  obtain ⟨p, xs, i, z, rfl, rfl, hq, he, q⟩ := h
  cases rx
  obtain ⟨t, rfl⟩ := ry
  obtain ⟨its, r, pl, hz⟩ := I.tuple hq
  obtain ⟨j, h1, h2, h3, h4, h5⟩ := atI_get he
  obtain ⟨w, ew, rw'⟩ := r.get h2
  have hl := r.length
  have hn := line63
  have fin : EP X pins σ Q w s := ⟨z, H, I, rw', q⟩
  exact subscriptTail_builtinR (x := w) pl.typeIs slot_tuple_getitem.lookup
    (getItem_tuple (j := j) (Q := fun r s' => r = w ∧ EP X pins σ Q r s') pl (by omega) (by omega) (by rw [List.size_toArray, ← hl]; exact h1) (by simpa using ew) ⟨rfl, fin⟩) hs
/-! ### xs[i] = v, any sign -/
/-! ### slices -/
/-! ### in, not in: flat items -/
/-! ### len, list(x), tuple(x) of any list or tuple that is read -/
theorem call_len_seq : CallR X (.builtin "len") (fun xs H Q => ∃ p ys, xs = [.ref p] ∧ (SqL X.K H p ys ∨ SqT X.K H p ys) ∧ Q (.int ys.length) H) := by
  intro pins s σ H xs us Q I r h
  obtain ⟨p, ys, rfl, hq, q⟩ := h
  obtain ⟨u, rfl, rx⟩ := vals1 r
  cases rx
  have hn := line63
  rcases hq with hq | hq
  · obtain ⟨its, r', pl, hz⟩ := I.list hq
    have hlen := r'.length
    exact Calls.call_len_list pl.isList (by simp only [List.size_toArray] <;> omega) ⟨.int ys.length, H, I.tok _, ⟨s.toks + 1, by rw [List.size_toArray, hlen]⟩, q⟩
  · obtain ⟨its, r', pl, hz⟩ := I.tuple hq
    have hlen := r'.length
    exact len_tuple pl (by simp only [List.size_toArray] <;> omega) ⟨.int ys.length, H, I.tok _, ⟨s.toks + 1, by rw [List.size_toArray, hlen]⟩, q⟩
theorem call_list_of : CallR X (.type "list") (fun xs H Q => ∃ p ys, xs = [.ref p] ∧ (SqL X.K H p ys ∨ SqT X.K H p ys) ∧ ∀ l, H l = none → Q (.ref l) (upd H l (.lst ys))) := by
  intro pins s σ H xs us Q I r h
  obtain ⟨p, ys, rfl, hq, q⟩ := h
  obtain ⟨u, rfl, rx⟩ := vals1 r
  cases rx
  have fin : ∀ (its : List Value), Vals ys its → ys.length ≤ sizeLine → ∀ (h' : Heap) (c' : Nat), (∀ b o', s.heap.get? b = some o' → h'.get? b = some o') →
      h'.get? s.heap.objs.size = some { cls := .type "list", dict := none, data := .seq its.toArray c', slots := #[] } → EP X pins σ Q (.ref s.heap.objs.size) { s with heap := h' } := fun its r' hz h' c' kp e =>
    ⟨.ref s.heap.objs.size, _, I.laid (t' := s.toks) kp (Nat.le_refl _) (show ObjOk X.prog X.w _ h' _ (.lst ys) from ⟨hz, its, c', r', e⟩), rfl, q _ (I.hok.fresh (Nat.le_refl _))⟩
  rcases hq with hq | hq
  · obtain ⟨its, r', pl, hz⟩ := I.list hq
    have hlen := r'.length
    obtain ⟨o, ho, hc, n, hd⟩ := pl.isList
    exact call_list_seq p (.inl rfl) ho hc hd (fun h' c' kp e => fin its r' hz h' c' kp e) (by simp only [List.size_toArray] <;> omega)
  · obtain ⟨its, r', pl, hz⟩ := I.tuple hq
    have hlen := r'.length
    obtain ⟨o, ho, hc, n, hd⟩ := pl
    exact call_list_seq p (.inr rfl) ho hc hd (fun h' c' kp e => fin its r' hz h' c' kp e) (by simp only [List.size_toArray] <;> omega)
/-! ### the call of a builtin's method: o.m(..) -/
/-- the value is of that builtin type -/
def tyV (K : PySem.W.Frag) (T : String) (x : V) (H : Hp) : Prop := match x with
  | .str _ => T = "str"
  | .int _ => T = "int"
  | .ref p => (T = "list" ∧ ∃ xs, SqL K H p xs) ∨ (T = "tuple" ∧ ∃ o, K.lookup p = some o ∧ o.cls = .type "tuple" ∧ o.dict = none) ∨
      (T = "dict" ∧ ((∃ kvs, H p = some (.dK kvs)) ∨ ∃ kvs, H p = some (.dT kvs))) ∨ (T = "set" ∧ ∃ S n, H p = some (.set S n))
  | _ => False
theorem tyV_is {pins : List (Addr × Obj)} {σ : St} {H : Hp} {s : Shared} {T : String} {x : V} {v : Value} (I : Inv X pins σ H s) (r : RelV x v) (ty : tyV X.K T x H) :
    s.TypeIs v T ∧ ∀ a, v = .ref a → ∃ ob, s.heap.get? a = some ob ∧ ob.dict = none := by
  cases x with
  | str z =>
    obtain ⟨t, rfl⟩ := r
    cases (show T = "str" from ty)
    exact ⟨typeIs_str s z t, fun _ e => nomatch e⟩
  | int i =>
    obtain ⟨t, rfl⟩ := r
    cases (show T = "int" from ty)
    exact ⟨typeIs_int s i t, fun _ e => nomatch e⟩
  | ref p =>
    cases r
    rcases ty with ⟨rfl, xs, hq⟩ | ⟨rfl, o, hk, hc, hd⟩ | ⟨rfl, hk⟩ | ⟨rfl, S, n, hk⟩
    · obtain ⟨its, _, pl, _⟩ := I.list hq
      refine ⟨pl.isList.typeIs, fun a e => ?_⟩
      cases e
      obtain ⟨o, n, e, c, hd, _⟩ := pl
      exact ⟨o, e, hd⟩
    · refine ⟨⟨o, I.kIn p o hk, hc⟩, fun a e => ?_⟩
      cases e
      exact ⟨o, I.kIn _ o hk, hd⟩
    · have z : ∃ o, s.heap.get? p = some o ∧ o.ExactDict := by
        rcases hk with ⟨kvs, hk⟩ | ⟨kvs, hk⟩
        · obtain ⟨_, _, _, _, o, _, _, e, ex, _⟩ := I.hok p _ hk
          exact ⟨o, e, ex⟩
        · obtain ⟨_, _, _, _, o, _, _, e, ex, _⟩ := I.hok p _ hk
          exact ⟨o, e, ex⟩
      obtain ⟨o, e, ex⟩ := z
      refine ⟨⟨o, e, ex.1⟩, fun a e2 => ?_⟩
      cases e2
      exact ⟨o, e, ex.2.1⟩
    · obtain ⟨o, _, _, _, e, ex, _⟩ := I.hok p _ hk
      refine ⟨⟨o, e, ex.1⟩, fun a e2 => ?_⟩
      cases e2
      exact ⟨o, e, ex.2.1⟩
  | _ => exact False.elim ty
def tBM (K : PySem.W.Frag) (T : String) (r : V → List V → Hp → VK → Prop) (to : TE) (t : TA) : TE := fun σ H Q => to σ H fun x H1 => tyV K T x H1 ∧ t σ H1 fun xs H2 => r x xs H2 Q
variable {o e : Expr} {es : List Expr} {to : TE} {t : TA} {name : Str} {apos cpos : Pos} {T id : String} {r : V → List V → Hp → VK → Prop}
theorem pe_bm (pa : PlainAttrs T) (slot : Slot T name id) (hty : typeOf (.builtin id) = pure (.type "method_descriptor")) (hm : MtR X id r) (ho : PE X o to) (ha : PA X (e :: es) t)
    (hbase : attributeBase o name X.env (eval o X.env) = eval o X.env := by rfl)
    (hfew : ((backTo cpos (starEach (e :: es) X.env)).all (fun x => !x.1) && (backToKw cpos (keywordEach [] X.env)).all (fun x => x.1.isSome)
      && decide ((e :: es).length + ([] : List Keyword).length + (if ([] : List Keyword).isEmpty then 0 else 1) < 30)) = true := by rfl)
    (hline : (apos.endLine == cpos.line) = true := by rfl) (hs : starEach (e :: es) X.env = (false, eval e X.env) :: starEach es X.env := by rfl) (hplain : (backTo cpos (starEach es X.env)).any (·.1) = false := by rfl) :
    PE X (.Call (.Attribute o name apos) (e :: es) [] cpos) (tBM X.K T r to t) := by
  intro pins s σ H Q I h
  refine wpAny_Call_method_late hbase hfew hline rfl (thn (ho pins s σ H _ I h) fun v s1 ⟨x, H1, I1, r1, ty, q1⟩ => ?_)
  obtain ⟨h1, h2⟩ := tyV_is I1 r1 ty
  refine ⟨T, id, pa, slot, hty, h1, h2, ?_⟩
  have hA := ha cpos pins s1 σ H1 _ I1 q1
  rw [hs] at hA ⊢
  refine Calls.callWith_builtin (by show (false || (backTo cpos (starEach es X.env)).any (·.1)) = false; rw [hplain] <;> rfl) (Calls.evalArgs_plain ?_)
  exact thn hA fun us s2 ⟨vs, H2, I2, r2, q2⟩ => hm pins s2 σ H2 x vs v us Q I2 r1 r2 q2
/- xs.append(e), list.index on a module's tuple .. are MtR facts of 06m -/
end
end L2

namespace L2
open PySem PySem.Spec PyProof.Rows

def MtM (X : Cx) (id : String) (r : V → List V → Hp → VK → Prop) : Prop :=
  ∀ (pins : List (Addr × Obj)) (s : Shared) (σ : St) (H : Hp) (x : V) (xs : List V) (v : Value) (us : List Value) (Q : VK), Inv X pins σ H s → RelV x v → Vals xs us → r x xs H Q →
    wpAny (model X.prog X.w) X.A (call (.builtin id) (v :: us)) (EP X pins σ Q) X.xe s

/-! ### lists of values -/
theorem Vals.one : ∀ {x : V} {us : List Value}, Vals [x] us → ∃ u, us = [u] ∧ RelV x u
  | _, _, .cons r .nil => ⟨_, rfl, r⟩
section
variable {X : Cx} {pins : List (Addr × Obj)} {σ : St} {H : Hp} {s : Shared} {l b : Addr} {xs ys zs : List V}

/-! ### the two steps: a tracked list is rewritten, a new list is laid -/
theorem Inv.lset {its its' : List Value} {n : Nat} {f : Array Value → Array Value} {t' : Nat} (I : Inv X pins σ H s) (hH : H l = some (.lst xs))
    (e : s.heap.get? l = some { cls := .type "list", data := .seq its.toArray n }) (hf : f its.toArray = its'.toArray) (hv : Vals ys its') (hz : ys.length ≤ sizeLine) :
    Inv X pins σ (upd H l (.lst ys)) { s with heap := s.heap.update l (Obj.mapSeq f), toks := t' } := by
  have q := PySem.IsL.update e f
  rw [hf] at q
  refine I.write (x := l) (e := l) (by rw [hH]; exact trivial) (.inl rfl) (fun b' u hb hu => (Heap.get?_update_other s.heap (Obj.mapSeq f) (Ne.symm hb)).trans hu) ⟨_, q⟩ ?_
  exact ⟨hz, its', _, hv, q⟩
theorem Inv.lnew {its : List Value} {t' : Nat} (I : Inv X pins σ H s) (hv : Vals ys its) (hz : ys.length ≤ sizeLine) :
    Inv X pins σ (upd H s.heap.objs.size (.lst ys)) { s with heap := s.heap.push { cls := .type "list", data := .seq its.toArray }, toks := t' } :=
  I.laid (fun _ _ q => Heap.get?_push_of_some _ q) (Nat.le_refl _) ⟨hz, its, 0, hv, Heap.get?_push_size _ rfl⟩
theorem Inv.fresh (I : Inv X pins σ H s) : H s.heap.objs.size = none := I.hok.fresh (Nat.le_refl _)
theorem Inv.lstM (I : Inv X pins σ H s) (hH : H l = some (.lst xs)) : xs.length ≤ sizeLine ∧ ∃ (its : List Value) (n : Nat), Vals xs its ∧ xs.length = its.length ∧ s.heap.get? l = some { cls := .type "list", data := .seq its.toArray n } := by
  obtain ⟨z, its, n, r, e⟩ := I.hok l _ hH
  exact ⟨z, its, n, r, r.length, e⟩

end

section
variable {X : Cx}

/-! ### methods -/
def rAppend : V → List V → Hp → VK → Prop := fun x vs H Q => ∃ l xs y, x = .ref l ∧ vs = [y] ∧ H l = some (.lst xs) ∧ xs.length < sizeLine ∧ Q .non (upd H l (.lst (xs ++ [y])))
theorem mt_append : MtM X "list.append" rAppend := by
  intro pins s σ H x vs v us Q I rx rv h
  obtain ⟨l, xs, y, rfl, rfl, hH, hz, q⟩ := h
  cases rx
  obtain ⟨u, rfl, ru⟩ := rv.one
  obtain ⟨z, its, n, r, hl, e⟩ := I.lstM hH
  refine call_meets F.slot_list_append ⟨_, e, rfl⟩ F.entry_list_append (F.args_list_append_2 _ _) (PySem.list_append l its.toArray n u (by rw [List.size_toArray]; omega)) ⟨e, ?_⟩
  refine ⟨.non, _, I.lset (its' := its ++ [u]) hH e (by simp) (r.append (.cons ru .nil)) ?_, rfl, q⟩
  rw [List.length_append, List.length_singleton]
  omega

/-! ### list + list, list += list, list * int -/
def rCat : R2 := fun x y H Q => ∃ l b xs zs, x = .ref l ∧ y = .ref b ∧ H l = some (.lst xs) ∧ H b = some (.lst zs) ∧ xs.length + zs.length ≤ sizeLine ∧ ∀ p, H p = none → Q (.ref p) (upd H p (.lst (xs ++ zs)))
theorem op_cat : OpR X (binaryOp .Add) rCat := by
  intro pins s σ H x y v u Q I rx ry h
  obtain ⟨l, b, xs, zs, rfl, rfl, hH, hB, hz, q⟩ := h
  cases rx
  cases ry
  obtain ⟨z, its, n, r, hl, e⟩ := I.lstM hH
  obtain ⟨z2, its2, n2, r2, hl2, e2⟩ := I.lstM hB
  refine PySem.P.add_list e e2 ?_ (by rw [List.size_toArray, List.size_toArray]; omega)
  have ea : its.toArray ++ its2.toArray = (its ++ its2).toArray := by simp
  rw [ea]
  exact ⟨.ref _, _, I.lnew (t' := s.toks) (r.append r2) (by rw [List.length_append]; omega), rfl, q _ I.fresh⟩
/-! ### del xs[i] -/
end

/-! ### xs[a:b] = ys -/
section
variable {prog : Program} {w : World} {A : Around} {E : Value → Shared → Prop} {s : Shared}
set_option maxRecDepth 100000 in
end


end L2
namespace L2
open PySem PySem.Spec PyProof.Rows

/-! ### lists of pairs as tables -/
section
variable {κ : Type} [DecidableEq κ]
def valV (kvs : List (κ × V)) (k : κ) : Option V := (kvs.find? fun kv => decide (kv.1 = k)).map (·.2)
/-- in its place, or at the end -/
def putK (kvs : List (κ × V)) (k : κ) (v : V) : List (κ × V) :=
  if (kvs.any fun kv => decide (kv.1 = k)) = true then kvs.map (fun kv => if kv.1 = k then (kv.1, v) else kv) else kvs ++ [(k, v)]
theorem valV_nil {k : κ} : valV ([] : List (κ × V)) k = none := rfl
theorem valV_pos {p : κ × V} {r : List (κ × V)} {k : κ} (e : p.1 = k) : valV (p :: r) k = some p.2 := by simp [valV, List.find?_cons, e]
theorem valV_neg {p : κ × V} {r : List (κ × V)} {k : κ} (e : ¬ p.1 = k) : valV (p :: r) k = valV r k := by simp [valV, List.find?_cons, e]
theorem valV_any (k : κ) : ∀ kvs : List (κ × V), (kvs.any fun kv => decide (kv.1 = k)) = (valV kvs k).isSome
  | [] => rfl
  | p :: r => by
    rw [List.any_cons]
    by_cases e : p.1 = k
    · simp only [valV_pos e, decide_eq_true e, Bool.true_or, Option.isSome_some]
    · rw [valV_neg e, decide_eq_false e, Bool.false_or]; exact valV_any k r
theorem length_putK (kvs : List (κ × V)) (k : κ) (v : V) : (putK kvs k v).length ≤ kvs.length + 1 := by
  unfold putK
  split
  · rw [List.length_map]; omega
  · rw [List.length_append, List.length_cons, List.length_nil]; omega
theorem putK_new {kvs : List (κ × V)} {k : κ} (v : V) (h : valV kvs k = none) : putK kvs k v = kvs ++ [(k, v)] := by
  unfold putK
  rw [valV_any, h]
  exact if_neg (by decide)

theorem RelO.isSome_eq {o : Option V} {u : Option Value} (r : RelO o u) : o.isSome = u.isSome := by
  cases o with
  | none => cases u with
    | none => rfl
    | some _ => exact (show False from r).elim
  | some _ => cases u with
    | none => exact (show False from r).elim
    | some _ => rfl
/-- raw tables of the same keys -/
theorem KV.val {kvs : List (κ × V)} {vs : List (κ × Value)} (r : KV kvs vs) (k : κ) : RelO (valV kvs k) (valueAt vs k) := by
  unfold KV at r
  induction r with
  | nil => exact True.intro
  | @cons p q ps qs h t ih =>
    obtain ⟨h1, h2⟩ := h
    by_cases e : p.1 = k
    · have e' : q.1 = k := h1.symm.trans e
      have b : valueAt (q :: qs) k = some q.2 := by simp [valueAt, List.find?_cons, e']
      rw [valV_pos e, b]; exact h2
    · have e' : ¬ q.1 = k := fun z => e (h1.trans z)
      have b : valueAt (q :: qs) k = valueAt qs k := by simp [valueAt, List.find?_cons, e']
      rw [valV_neg e, b]; exact ih
theorem KV.any {kvs : List (κ × V)} {vs : List (κ × Value)} (r : KV kvs vs) (k : κ) : (kvs.any fun kv => decide (kv.1 = k)) = vs.any fun kv => decide (kv.1 = k) := by
  unfold KV at r
  induction r with
  | nil => rfl
  | cons h t ih => rw [List.any_cons, List.any_cons, ih, h.1]
theorem KV.repl {kvs : List (κ × V)} {vs : List (κ × Value)} (r : KV kvs vs) (k : κ) {y : V} {u : Value} (ry : RelV y u) :
    KV (kvs.map fun kv => if kv.1 = k then (kv.1, y) else kv) (vs.map fun kv => if kv.1 = k then (kv.1, u) else kv) := by
  unfold KV at r ⊢
  induction r with
  | nil => exact .nil
  | @cons p q ps qs h t ih =>
    rw [List.map_cons, List.map_cons]
    refine .cons ?_ ih
    obtain ⟨h1, h2⟩ := h
    by_cases e : p.1 = k
    · rw [if_pos e, if_pos (h1.symm.trans e)]; exact ⟨h1, ry⟩
    · rw [if_neg e, if_neg (fun z => e (h1.trans z))]; exact ⟨h1, h2⟩
theorem KV.put {kvs : List (κ × V)} {vs : List (κ × Value)} (r : KV kvs vs) (k : κ) {y : V} {u : Value} (ry : RelV y u) : KV (putK kvs k y) (stored vs k u) := by
  unfold putK stored
  rw [r.any k]
  by_cases e : (vs.any fun kv => decide (kv.1 = k)) = true
  · rw [if_pos e, if_pos e]; exact r.repl k ry
  · rw [if_neg e, if_neg e]; exact Paired.snoc r ⟨rfl, ry⟩
theorem KV.length {kvs : List (κ × V)} {vs : List (κ × Value)} (r : KV kvs vs) : kvs.length = vs.length := Paired.length r
end


/-! ### a tracked dict, its keys ints and texts or tuples of these -/
theorem kV_is {P : Program} {w : World} {k : Key} {u : Value} (r : RelV (kV k) u) : (mixKind P w).is k u = true := by
  cases k with
  | inl i => obtain ⟨t, e⟩ := (show ∃ t, u = Value.int i t from r); subst e; exact mixKind_int P w i t
  | inr x => obtain ⟨t, e⟩ := (show ∃ t, u = Value.str x t from r); subst e; exact mixKind_str P w x t
theorem items_are {P : Program} {w : World} : ∀ {ks : List Key} {us : List Value}, Vals (ks.map kV) us → ItemsAre (mixKind P w) ks us
  | [], _, r => by rw [List.map_nil] at r; cases r; exact .nil
  | k :: ks, _, r => by
    rw [List.map_cons] at r
    cases r with
    | cons h t => exact .cons (kV_is h) (items_are t)

/-- raw entries of a dict with tuple keys -/
abbrev KT (H : Hp) : List (List Key × V) → List (List Key × Addr × Value) → Prop := Paired fun p q => p.1 = q.1 ∧ H q.2.1 = some (.tup (p.1.map kV)) ∧ RelV p.2 q.2.2
theorem KT.val {H : Hp} {kvs : List (List Key × V)} {xs : List (List Key × Addr × Value)} (r : KT H kvs xs) (k : List Key) : RelO (valV kvs k) ((atKey xs k).map (·.2)) := by
  induction r with
  | nil => exact True.intro
  | @cons p q ps qs h t ih =>
    obtain ⟨h1, _, h2⟩ := h
    by_cases e : p.1 = k
    · have e' : q.1 = k := h1.symm.trans e
      have b : atKey (q :: qs) k = some q.2 := by simp [atKey, List.find?_cons, e']
      rw [valV_pos e, b]; exact h2
    · have e' : ¬ q.1 = k := fun z => e (h1.trans z)
      have b : atKey (q :: qs) k = atKey qs k := by simp [atKey, List.find?_cons, e']
      rw [valV_neg e, b]; exact ih
theorem KT.repl {H : Hp} {kvs : List (List Key × V)} {xs : List (List Key × Addr × Value)} (r : KT H kvs xs) (k : List Key) {y : V} {u : Value} (ry : RelV y u) :
    KT H (kvs.map fun kv => if kv.1 = k then (kv.1, y) else kv) (xs.map (putAt k u)) := by
  induction r with
  | nil => exact .nil
  | @cons p q ps qs h t ih =>
    rw [List.map_cons, List.map_cons]
    refine .cons ?_ ih
    obtain ⟨h1, h2, h3⟩ := h
    unfold putAt
    by_cases e : p.1 = k
    · rw [if_pos e, if_pos (h1.symm.trans e)]; exact ⟨h1, h2, ry⟩
    · rw [if_neg e, if_neg (fun z => e (h1.trans z))]; exact ⟨h1, h2, h3⟩
theorem KT.put {H : Hp} {kvs : List (List Key × V)} {xs : List (List Key × Addr × Value)} (r : KT H kvs xs) (k : List Key) {b : Addr} {y : V} {u : Value} (hb : H b = some (.tup (k.map kV))) (ry : RelV y u) :
    KT H (putK kvs k y) (storedH xs k b u) := by
  have e : (kvs.any fun kv => decide (kv.1 = k)) = (atKey xs k).isSome := by
    rw [valV_any, (r.val k).isSome_eq, Option.isSome_map]
  unfold putK storedH
  rw [e]
  by_cases q : (atKey xs k).isSome = true
  · rw [if_pos q, if_pos q]; exact r.repl k ry
  · rw [if_neg q, if_neg q]; exact Paired.snoc r ⟨rfl, hb, ry⟩
theorem KT.keeps {H H' : Hp} {kvs : List (List Key × V)} {xs : List (List Key × Addr × Value)} (r : KT H kvs xs) (ht : ∀ b ys, H b = some (.tup ys) → H' b = some (.tup ys)) : KT H' kvs xs :=
  Paired.mapP r fun _ _ z => ⟨z.1, ht _ _ z.2.1, z.2.2⟩

section
variable {P : Program} {w : World} {H : Hp} {h : Heap} {a : Addr}
theorem rd_of {u : HO} (ok : HOk P w H h) (e : Rd H a u) : ObjOk P w H h a u := e.ok ok
theorem dk_rd {kvs : List (Key × V)} (ok : HOk P w H h) (e : Rd H a (.dK kvs)) : kvs.length ≤ sizeLine ∧ (a == sysModules) = false ∧ ∃ vs, KV kvs vs ∧ h.DictOf (mixKind P w) a vs :=
  show ObjOk P w H h a (.dK kvs) from rd_of ok e
theorem dk_of {kvs : List (Key × V)} (ok : HOk P w H h) (e : H a = some (.dK kvs)) : kvs.length ≤ sizeLine ∧ (a == sysModules) = false ∧ ∃ vs, KV kvs vs ∧ h.DictOf (mixKind P w) a vs := dk_rd ok (.inl e)
/-- a tracked tuple of ints and texts is a key -/
theorem key_of {ks : List Key} (ok : HOk P w H h) (e : H a = some (.tup (ks.map kV))) : (tupleKind (mixKind P w)).is h ks a := by
  obtain ⟨_, its, r, o, h1, h2, n, h3⟩ := (show ObjOk P w H h a (.tup (ks.map kV)) from ok a _ e)
  exact ⟨o, its.toArray, n, h1, h2, h3, by simpa using items_are r⟩
theorem dt_rd {kvs : List (List Key × V)} (ok : HOk P w H h) (e : Rd H a (.dT kvs)) : kvs.length ≤ sizeLine ∧ (a == sysModules) = false ∧
    ∃ xs, KT H kvs xs ∧ h.DictOfH (tupleKind (mixKind P w)) a xs := by
  obtain ⟨z, y, xs, r, o, es, ep, h1, h2, h3, h4, h5⟩ := (show ObjOk P w H h a (.dT kvs) from rd_of ok e)
  refine ⟨z, y, xs, r, o, es, ep, h1, h2, h3, h4, fun x hx => ?_, h5⟩
  have all : ∀ {l : List (List Key × V)} {m : List (List Key × Addr × Value)}, KT H l m → ∀ x ∈ m, (tupleKind (mixKind P w)).is h x.1 x.2.1 := by
    intro l m q
    induction q with
    | nil => intro x hx; exact nomatch hx
    | @cons p q ps qs hq t ih =>
      intro x hx
      rcases List.mem_cons.mp hx with e | hx
      · subst e
        exact key_of ok (by rw [← hq.1]; exact hq.2.1)
      · exact ih x hx
  exact all r x hx
theorem dt_of {kvs : List (List Key × V)} (ok : HOk P w H h) (e : H a = some (.dT kvs)) : kvs.length ≤ sizeLine ∧ (a == sysModules) = false ∧
    ∃ xs, KT H kvs xs ∧ h.DictOfH (tupleKind (mixKind P w)) a xs := dt_rd ok (.inl e)
end

/-- what the dict at a holds at the key y -/
def DGet (H : Hp) (a : Addr) (y : V) (r : Option V) : Prop :=
  (∃ kvs k, Rd H a (.dK kvs) ∧ y = kV k ∧ r = valV kvs k) ∨ ∃ kvs k b, Rd H a (.dT kvs) ∧ y = .ref b ∧ H b = some (.tup (k.map kV)) ∧ r = valV kvs k
/-- the heap behind a[y] = v -/
def DPut (H : Hp) (a : Addr) (y v : V) (H' : Hp) : Prop :=
  (∃ kvs k, H a = some (.dK kvs) ∧ y = kV k ∧ kvs.length < sizeLine ∧ H' = upd H a (.dK (putK kvs k v))) ∨
  ∃ kvs k b, H a = some (.dT kvs) ∧ y = .ref b ∧ H b = some (.tup (k.map kV)) ∧ kvs.length < sizeLine ∧ H' = upd H a (.dT (putK kvs k v))
theorem DPut.t {H : Hp} {a b : Addr} {kvs : List (List Key × V)} {k : List Key} {v : V} (e : H a = some (.dT kvs)) (eb : H b = some (.tup (k.map kV))) (hl : kvs.length < sizeLine) :
    DPut H a (.ref b) v (upd H a (.dT (putK kvs k v))) := .inr ⟨kvs, k, b, e, rfl, eb, hl, rfl⟩


section
variable {X : Cx} {pins : List (Addr × Obj)} {σ : St} {H : Hp} {s : Shared} {a : Addr} {y v : V} {u r : Value} {o : Option V} {A : Around} {E : Value → Shared → Prop}

theorem Inv.big (I : Inv X pins σ H s) : sysModules < s.heap.objs.size := by
  have h : mainGlobals < s.heap.objs.size := (I.mod.glob.keeps I.bk).lt
  exact Nat.lt_trans (by decide) h

/-- d[y], there -/
theorem d_getItem {Q : Value → Shared → Prop} (hu : A.units + 1 < cLine) (I : Inv X pins σ H s) (g : DGet H a y (some v)) (ry : RelV y u) (h : ∀ w' s', Inv X pins σ H s' → RelV v w' → Q w' s') :
    wpAny (model X.prog X.w) A (getItem (.ref a) u) Q E s := by
  rcases g with ⟨kvs, k, e, ey, l⟩ | ⟨kvs, k, b, e, ey, eb, l⟩
  · subst ey
    obtain ⟨z, hd, vs, rel, dd⟩ := dk_rd I.hok e
    obtain ⟨w', hw, rw'⟩ := RelO.some_of (v := v) (o := valueAt vs k) (by rw [l]; exact rel.val k)
    exact wpAny_getItem_of (kV_is ry) dd.mapOf hw (h w' _ (I.tok _) rw')
  · subst ey
    cases (show u = Value.ref b from ry)
    obtain ⟨z, hd, xs, rel, dd⟩ := dt_rd I.hok e
    obtain ⟨w', hw, rw'⟩ := RelO.some_of (v := v) (o := (atKey xs k).map (·.2)) (by rw [l]; exact rel.val k)
    obtain ⟨p, hp, hp2⟩ := Option.map_eq_some_iff.mp hw
    refine wpAny_getItem_heap (tupleKind_room_in1 hu) (key_of I.hok eb) dd hp ?_
    rw [hp2]
    exact h w' _ (I.tok _) rw'
theorem d_notIn {Q : Value → Shared → Prop} (hu : A.units + 1 < cLine) (I : Inv X pins σ H s) (g : DGet H a y o) (ry : RelV y u) (h : ∀ s', Inv X pins σ H s' → Q (.bool (!o.isSome)) s') :
    wpAny (model X.prog X.w) A (compareOp .NotIn u (.ref a)) Q E s := by
  rcases g with ⟨kvs, k, e, ey, l⟩ | ⟨kvs, k, b, e, ey, eb, l⟩
  · subst ey
    obtain ⟨z, hd, vs, rel, dd⟩ := dk_rd I.hok e
    refine wpAny_notIn_of (kV_is ry) hd dd.mapOf ?_
    rw [← (rel.val k).isSome_eq, ← l]
    exact h _ (I.tok _)
  · subst ey
    cases (show u = Value.ref b from ry)
    obtain ⟨z, hd, xs, rel, dd⟩ := dt_rd I.hok e
    refine wpAny_notIn_heap (tupleKind_room_in1 hu) (key_of I.hok eb) hd dd ?_
    have q := (rel.val k).isSome_eq
    rw [Option.isSome_map] at q
    rw [← q, ← l]
    exact h _ (I.tok _)
/-- a dict's object is replaced -/
theorem d_write {h' : Heap} {t' : Nat} {ob : HO} (I : Inv X pins σ H s) (mu : Mut (H a)) (hs : Heap.SameBut a s.heap h') (he : ∃ q, h'.get? a = some q) (new : ObjOk X.prog X.w (upd H a ob) h' a ob) :
    Inv X pins σ (upd H a ob) { s with heap := h', toks := t' } :=
  I.write (x := a) (e := a) mu (.inl rfl) (fun b q hb z => (hs.2 b hb).trans z) he new
theorem dk_new {P : Program} {w : World} {H' : Hp} {h' : Heap} {kvs : List (Key × V)} {vs : List (Key × Value)} (z : kvs.length ≤ sizeLine) (hd : (a == sysModules) = false) (rel : KV kvs vs) (dd : h'.DictOf (mixKind P w) a vs) :
    ObjOk P w H' h' a (.dK kvs) := ⟨z, hd, vs, rel, dd⟩
/-- d[y] = v -/
theorem d_setItem {H' : Hp} {Q : Unit → Shared → Prop} (hu : A.units + 1 < cLine) (I : Inv X pins σ H s) (g : DPut H a y v H') (ry : RelV y u) (rv : RelV v r) (h : ∀ s', Inv X pins σ H' s' → Q () s') :
    wpAny (model X.prog X.w) A (setItem (.ref a) u r) Q E s := by
  rcases g with ⟨kvs, k, e, ey, l, eH⟩ | ⟨kvs, k, b, e, ey, eb, l, eH⟩
  · subst ey eH
    obtain ⟨z, hd, vs, rel, dd⟩ := dk_of I.hok e
    have hz : vs.length ≤ sizeLine := by rw [← rel.length]; exact z
    have hl : (putK kvs k v).length ≤ sizeLine := by have := length_putK kvs k v; omega
    refine wpAny_setItem_pairs (hsz := hz) (kV_is ry) dd fun h' dd' hs => h _ ?_
    have he : ∃ q, h'.get? a = some q := let ⟨q, _, _, hq, _⟩ := dd'; ⟨q, hq⟩
    exact d_write I (by rw [e]; exact True.intro) hs he (dk_new hl hd (rel.put k rv) dd')
  · subst ey eH
    cases (show u = Value.ref b from ry)
    obtain ⟨z, hd, xs, rel, dd⟩ := dt_of I.hok e
    have hz : xs.length ≤ sizeLine := by rw [← Paired.length rel]; exact z
    have hl : (putK kvs k v).length ≤ sizeLine := by have := length_putK kvs k v; omega
    refine wpAny_setItem_heap (hsz := hz) (tupleKind_room_in1 hu) (key_of I.hok eb) dd fun h' dd' hs => h _ ?_
    obtain ⟨q, es, ep, hq, h2, h3, h4, _, h5⟩ := dd'
    refine d_write I (by rw [e]; exact True.intro) hs ⟨q, hq⟩ ⟨hl, hd, _, (rel.put k eb rv).keeps fun c ys ec => ?_, q, es, ep, hq, h2, h3, h4, h5⟩
    rw [upd_ne (ne_of ec e (fun z => nomatch z))]
    exact ec
end




/-! ### readings and rules -/
/-- the element of a subscription, not a slice -/
def NoSl (i : Expr) : Prop := ∀ ov iv, subscripted i false ov iv = operate [ov, iv] (getItem ov iv)
theorem subD_of {prog : Program} {w : World} {A : Around} {E : Value → Shared → Prop} {s : Shared} {env : Env} {value slice : Expr} {pos : Pos} {T id : String} {Q : Value → Shared → Prop}
    (hl : typeLookup (.type T) "__getitem__" = pure (some (.builtin id))) (hs : NoSl slice)
    (h : wpAny (model prog w) A (eval value env) (fun o s₁ => wpAny (model prog w) A (eval slice env) (fun i s₂ => s₂.TypeIs o T ∧ wpAny (model prog w) A (getItem o i) Q E s₂) E s₁) E s) :
    wpAny (model prog w) A (eval (.Subscript value slice pos) env) Q E s := by
  refine Subscript_ (wpAny_mono h (fun o s₁ h₁ => wpAny_mono h₁ (fun i s₂ h₂ => ?_) fun _ _ x => x) fun _ _ x => x)
  obtain ⟨hT, h₂⟩ := h₂
  unfold subscriptTail
  refine wpAny_bind ?_
  rw [getitemInPython_of_ne hT.not_modules]
  refine wpAny_bind (wpAny_specialOf hT hl ?_)
  have fin : wpAny (model prog w) A (subscripted slice false o i) (fun r s₃ => wpAny (model prog w) A (letTemporaryGo value o r >>= fun _ => pure r) Q E s₃) E s₂ := by
    rw [hs o i]
    exact wpAny_operating (wpAny_mono h₂ (fun r s₃ h₃ => wpAny_bind (wpAny_letTemporaryGo (wpAny_pure h₃))) fun _ _ x => x)
  first
    | exact wpAny_pure (wpAny_bind fin)
    | exact wpAny_bind (wpAny_pure (wpAny_bind fin))
    | exact wpAny_bind fin

theorem dict_typeIs {X : Cx} {pins : List (Addr × Obj)} {σ : St} {H : Hp} {s : Shared} {a : Addr} {y : V} {o : Option V} (I : Inv X pins σ H s) (g : DGet H a y o) : s.TypeIs (.ref a) "dict" := by
  rcases g with ⟨kvs, k, e, _, _⟩ | ⟨kvs, k, b, e, _, _, _⟩
  · obtain ⟨_, _, vs, _, dd⟩ := dk_rd I.hok e
    exact dd.typeIs
  · obtain ⟨_, _, xs, _, dd⟩ := dt_rd I.hok e
    exact dd.typeIs
/-- d[y] -/
def tDGet (td ty : TE) : TE := fun σ H Q => td σ H fun x H1 => ty σ H1 fun y H2 => ∃ a v, x = .ref a ∧ DGet H2 a y (some v) ∧ Q v H2
def tDNotIn (ty td : TE) : TE := fun σ H Q => ty σ H fun y H1 => td σ H1 fun x H2 => ∃ a o, x = .ref a ∧ DGet H2 a y o ∧ Q (.bl (!o.isSome)) H2
/-- d[y] = v -/
def sDPut (td ty tv : TE) : TS := fun D σ H => tv σ H fun v H1 => td σ H1 fun x H2 => ty σ H2 fun y H3 => ∃ a H4, x = .ref a ∧ DPut H3 a y v H4 ∧ D.nx σ H4
section
variable {X : Cx} {o i e value : Expr} {pos pos' tpos : Pos} {td ty tv : TE}
theorem pe_dget (hu : X.A.units + 1 < cLine) (ho : PE X o td) (hi : PE X i ty) (hs : NoSl i) : PE X (.Subscript o i pos) (tDGet td ty) := by
  intro pins s σ H Q I h
  refine subD_of PySem.F.slot_dict_getitem.lookup hs (thn (ho pins s σ H _ I h) fun u s1 ⟨x, H1, I1, rx, q1⟩ => thn (hi pins s1 σ H1 _ I1 q1) fun iv s2 ⟨y, H2, I2, ry, a, v, ex, g, q2⟩ => ?_)
  subst ex
  obtain rfl : u = Value.ref a := rx
  exact ⟨dict_typeIs I2 g, d_getItem hu I2 g ry fun w' s3 I3 rw' => ⟨v, H2, I3, rw', q2⟩⟩
theorem pc_dnotin (hu : X.A.units + 1 < cLine) (hi : PE X i ty) (ho : PE X o td) : PC X .NotIn i o (tDNotIn ty td) := by
  intro pins s σ H Q I h
  refine thn (hi pins s σ H _ I h) fun iv s1 ⟨y, H1, I1, ry, q1⟩ => thn (ho pins s1 σ H1 _ I1 q1) fun u s2 ⟨x, H2, I2, rx, a, ov, ex, g, q2⟩ => ?_
  subst ex
  obtain rfl : u = Value.ref a := rx
  exact d_notIn hu I2 g ry fun s3 I3 => ⟨.bl (!ov.isSome), H2, I3, rfl, q2⟩
theorem ps_dput (hu : X.A.units + 1 < cLine) (ho : PE X o td) (hi : PE X i ty) (hv : PE X value tv) (hs : swapsWith value (some (.Subscript o i pos')) pos.line X.env = pure false) :
    PS X (.Assign [.Subscript o i pos'] value pos) (sDPut td ty tv) := by
  intro pins s σ H D I h
  refine wpAny_Assign_Subscript (thn (hv pins s σ H _ I h) fun r s1 ⟨v, H1, I1, rv, q1⟩ => thn (ho pins s1 σ H1 _ I1 q1) fun u s2 ⟨x, H2, I2, rx, q2⟩ => thn (hi pins s2 σ H2 _ I2 q2) fun iv s3 ⟨y, H3, I3, ry, a, H4, ex, g, q3⟩ => ?_) hs
  subst ex
  obtain rfl : u = Value.ref a := rx
  exact d_setItem hu I3 g ry rv fun s4 I4 => ⟨σ, H4, I4, q3⟩
end


/-! ### displays -/
theorem dt_empty {P : Program} {w : World} {H : Hp} (h : Heap) (hb : sysModules < h.objs.size) : ObjOk P w H (h.push { cls := .type "dict", data := .dict #[] }) h.objs.size (.dT []) :=
  ⟨Nat.zero_le _, beq_eq_false_iff_ne.mpr (Ne.symm (Nat.ne_of_lt hb)), [], .nil, _, #[], 0, Heap.get?_push_size _ rfl, ⟨rfl, rfl, rfl⟩, rfl, rfl, List.nodup_nil⟩


/-! ### methods -/




/-! ### dict(d): a copy -/




end L2


namespace Att
open PySem PySem.W PySem.Calls PyProof.Rows

/-! ### the script -/
theorem ints_of_wellAll {P : Params} {h : Heap} : ∀ (ns : List Int) (vs : List Value), WellAll P h vs (ns.map WData.int) → IntsAre vs ns := by
  intro ns
  induction ns with
  | nil =>
    intro vs w
    rw [List.map_nil] at w
    cases w
    exact .nil
  | cons n ns ih =>
    intro vs w
    rw [List.map_cons] at w
    cases w with
    | cons a b =>
      cases a
      exact .cons _ _ (ih _ b)

theorem script_of {l : OpenLaw} {n : Nat} (hn : l.most = some n) {P : Params} {h : Heap} {args : List WData} {vals : List Value}
    (hpre : l.row.toRowW.claim.pre args = true) (hwl : WellAll P h vals args) :
    ∃ a vs ns, vals = [Value.ref a] ∧ args = [WData.list (ns.map WData.int)] ∧ h.get? a = some { cls := .type "list", data := .seq vs.toArray } ∧ IntsAre vs ns ∧ ns.length ≤ n := by
  have hsh : WShape.hasAll [] args [.list .int] = true := (pre_splitW hpre).1
  have hc : l.pre.holds [] { args := args } = true := (pre_splitW hpre).2
  obtain ⟨d, r, rfl, h1, h2⟩ := hasAllW_cons hsh
  obtain rfl := hasAllW_nil h2
  obtain ⟨xs, rfl, h3⟩ := hasW_list h1
  obtain ⟨ns, rfl⟩ := items_int h3
  have hlen : ns.length ≤ n := by
    unfold OpenLaw.pre at hc
    have h4 : (WTm.not (.lt (.lit (.int (n : Int))) (.len (.arg 0)))).holds [] { args := [.list (ns.map .int)] } = true := by
      have h4 := (holds_andW hc).1
      rw [hn] at h4
      exact h4
    have h5 := condW_of h4 (w_not (w_lt w_lit (w_len_list (w_arg rfl))))
    rw [List.length_map] at h5
    refine Nat.le_of_not_lt fun q => ?_
    have q' : (n : Int) < ((ns.length : Nat) : Int) := by omega
    first
      | (rw [decide_eq_true q'] at h5; exact absurd h5 (by decide))
      | (simp at h5; omega)
  cases hwl with
  | cons w1 w2 =>
    cases w2
    cases w1 with
    | list ho hall => exact ⟨_, _, ns, rfl, rfl, ho, ints_of_wellAll ns _ hall, hlen⟩

theorem post_true (l : OpenLaw) (args : List WData) : l.row.toRowW.claim.post args (.bool true) args = true :=
  postW_of (r := l.row.toRowW) (X := (true == true))
    (show WShape.has [] (.bool true) .bool = true by first | rfl | decide | simp [WShape.has, WShape.arms, WShape.armsAll])
    (show (WTm.eq .res (.lit (.bool true))).value [] { args := args, res := some (.bool true), after := args } = some (.bool (true == true)) from w_eq_bool (w_res rfl) w_lit) rfl

/-! ### the attachment: holds_open's last premise (the goal 'hc' behind k_head) from a wpAny of the law's body -/
/-- the same from a codeAny of the CALL (for a layer whose function contracts speak of calls) -/
theorem attach_call {l : OpenLaw} {n : Nat} {q : Program} {loose : List Str} {XP : (Str → Option Value) → Heap → Prop} {YP : World → Heap → Prop} {d : DefRec}
    (hn : l.most = some n) (hdf : d.params.defaults = [])
    (call : ∀ (w : World) (s₀ s₁ : Shared) (mg mb : Str → Option Value) (fa : Addr) (o : Obj) (pm cd doc : Value) (a : Addr) (vs : List Value) (ns : List Int),
      Ground q loose [] XP w s₀ mg mb s₁.heap → YP w s₁.heap →
      s₁.heap.get? fa = some o → o.data = .func (docDef d.name d.params d.body d.scope pm cd doc) → s₁.heap.CodeRec cd d.name → mg d.name = some (.ref fa) →
      s₁.heap.get? a = some { cls := .type "list", data := .seq vs.toArray } → IntsAre vs ns → ns.length ≤ n → s₁.gens = #[] →
      codeAny (model l.prog w) callerA (.call (.ref fa) ⟨[.ref a], []⟩) (fun r s' => r = .ok (.ret (.bool true)) ∧ OldK s₁.heap s'.heap ∧ s'.os = s₁.os ∧ AllBare s'.gens) s₁) :
    WalkO q loose XP YP l.row.toRowW d [] (fun f vs => PySem.call f vs) := by
  intro w s₀ s₁ mg mb G Y fa o pm cd doc dV kV ho hd hcd hD hmg hg args vals as hpre hlay hrd hwl hlo
  obtain rfl : dV = .none := Dflts.none hD hdf
  obtain rfl : kV = .none := Dflts.noKw hD
  obtain ⟨a, vs, ns, rfl, rfl, hobj, hints, hlen⟩ := script_of hn hpre hwl
  refine enter_call (codeAny_mono (call w s₀ s₁ mg mb fa o pm cd doc a vs ns G Y ho (fd_plain hd) hcd hmg hobj hints hlen hg) fun r s' hq => ?_)
  obtain ⟨rfl, h2, h3, h4⟩ := hq
  exact ⟨.inl ⟨.bool true, .bool true, [], rfl, fun _ => rfl, .bool true, post_true l _, fun _ => ⟨List.Pairwise.nil, fun _ hm => (nomatch hm)⟩⟩, h2, h3, h4⟩

/-! ### rules over ANY heap (no ledger) from facts about the written part K: the library's own take a ledger (News) for what they write -/
section
variable {prog : Program} {w : World} {A : Around} {E : Value → Shared → Prop} {s : Shared} {K : Frag}

/-! the whole heap as the ledger: makes every rule that writes through a ledger a rule over any heap -/
end
end Att

namespace L2
open PySem PySem.Spec PyProof.Rows

theorem vals_ints : ∀ {vs : List Value} {ns : List Int}, IntsAre vs ns → Vals (ns.map V.int) vs
  | _, _, .nil => .nil
  | _, _, .cons n t h => .cons ⟨t, rfl⟩ (vals_ints h)

/-- nothing is tracked but the script, known to the object (or it is an object of the module) -/
def Only (H : Hp) : Prop := ∀ b, H b = none ∨ ∃ o xs, H b = some (.frz o (.lst xs))

/-- THE HEAD: the law's promise, at the heap behind the top. F, the promise of the law's def, may use that base is part of the heap (so K.In base, base.Ns mainGlobals mg stand in Mod) -/
theorem law_call {P : Program} {w : World} {K : PySem.W.Frag} {mg mb : Str → Option Value} {CX : CXT} {k : Nat} {fa a : Addr} {fd : FuncData} {x : Str} {sp : Sp} {s₁ : Shared} {vs : List Value} {ns : List Int}
    (KX : K.In s₁.heap) (hns : s₁.heap.Ns mainGlobals mg) (hb : s₁.heap.Ns builtinsNs mb) (hbb : ∀ x : Str, x ≠ "__name__" → mb x = bootBuiltins x) (hlim : s₁.heap.NoLimit) (hg : s₁.gens = #[])
    (ha : s₁.heap.get? a = some { cls := .type "list", data := .seq vs.toArray }) (hi : IntsAre vs ns) (hl : ns.length ≤ sizeLine) (hr : Room k callerA)
    (F : ∀ base : Heap, K.In base → base.Ns mainGlobals mg → FnOk P w K mg base CX k fa fd [x] sp) (hbind : ∀ (s : Shared) (u : Value), BindsTo s fd ⟨[u], []⟩ [(x, u)])
    (hsp : ∀ H : Hp, Only H → SqL K H a (ns.map V.int) → sp [.ref a] H (fun v _ => v = .bl true) fun _ _ _ => False)
    (hCX : ∀ H e s', CX [] H s₁ (fun _ _ _ => False) e s' → False) :
    codeAny (model P w) callerA (.call (.ref fa) ⟨[.ref a], []⟩) (fun r s' => r = .ok (.ret (.bool true)) ∧ OldK s₁.heap s'.heap ∧ s'.os = s₁.os ∧ AllBare s'.gens) s₁ := by
  have rv := vals_ints hi
  have lenV := hi.length
  -- from an abstract heap in which nothing but the script may be tracked
  have core : ∀ H : Hp, Only H → SqL K H a (ns.map V.int) → HOk P w H s₁.heap → (∀ b, H b ≠ none → b = a) → (H a ≠ none → K.lookup a = none) →
      codeAny (model P w) callerA (.call (.ref fa) ⟨[.ref a], []⟩) (fun r s' => r = .ok (.ret (.bool true)) ∧ OldK s₁.heap s'.heap ∧ s'.os = s₁.os ∧ AllBare s'.gens) s₁ := by
    intro H hO hS hok hA hK
    have base_of : ∀ {b : Addr} {o : Obj}, s₁.heap.get? b = some o → H b = none → (hidT s₁.heap H).get? b = some o := fun e n => hidT_get e n
    have noA : ∀ {b : Addr} {o : Obj} {es : Array DictEntry} {ep : Nat}, s₁.heap.get? b = some o → o.data = .dict es ep → H b = none := fun {b o es ep} e d => by
      cases q : H b with
      | none => rfl
      | some u =>
        have e' : b = a := hA b (by rw [q]; simp)
        subst e'
        rw [ha] at e; cases e
        have d' : Data.seq vs.toArray _ = Data.dict es ep := d
        cases d'
    have nsK : ∀ {b : Addr} {m : Str → Option Value}, s₁.heap.Ns b m → (hidT s₁.heap H).Ns b m := fun {b m} ⟨o, es, ep, e, d, r⟩ => ⟨o, es, ep, base_of e (noA e d), d, r⟩
    have hKb : K.In (hidT s₁.heap H) := fun b o e => base_of (KX b o e) (by
      cases q : H b with
      | none => rfl
      | some u =>
        have e' : b = a := hA b (by rw [q]; simp)
        subst e'
        rw [hK (by rw [q]; simp)] at e; cases e)
    have hM : Mod K mg (hidT s₁.heap H) := ⟨hKb, nsK hns, ⟨mb, nsK hb, hbb⟩, let ⟨mc, h1, h2⟩ := hlim; ⟨mc, nsK h1, h2⟩⟩
    have e0 : Env0 P w K mg (hidT s₁.heap H) callerA [] s₁ H := ⟨rfl, hM, fun b o e => of_hidT e, Nat.le_of_eq (hidT_size _ _), trivial, fun b hb => absurd (show b ∈ ([] : List Addr) from hb) (by simp), hok, .of_eq hg⟩
    refine codeAny_mono ((F _ hKb (nsK hns)).run callerA [] s₁ H ⟨[.ref a], []⟩ [.ref a] [.ref a] _ _ hr e0 (hbind s₁ (.ref a)) (.cons rfl .nil) (hsp H hO hS)) fun r s' h => ?_
    cases r with
    | error e => exact (hCX H e s' h).elim
    | ok fl =>
      cases fl with
      | next => exact False.elim h
      | brk => exact False.elim h
      | cont => exact False.elim h
      | ret u =>
        obtain ⟨v, H', os, bare, un, hok', r', q⟩ := h
        have q' : v = .bl true := q
        subst q'
        obtain rfl : u = Value.bool true := r'
        refine ⟨rfl, OldK.of_keep fun b o e => ?_, os, bare⟩
        cases q : H b with
        | none => exact un.keep b o e q (by intro z; exact absurd (show b ∈ ([] : List Addr) from z) (by simp)) (by simp)
        | some u =>
          rcases hO b with z | ⟨ob, xs, z⟩
          · rw [q] at z; cases z
          · have z2 := un.frzs b ob _ z
            obtain ⟨e1, _⟩ := hok b _ z
            obtain ⟨e2, _⟩ := hok' b _ z2
            rw [e] at e1; cases e1
            exact e2
  cases hk : K.lookup a with
  | some o =>
    -- the script is one of the module's own objects
    have e := KX a o hk
    rw [ha] at e
    cases e
    refine core (fun _ => none) (fun _ => .inl rfl) (.inr ⟨_, vs.toArray, _, hk, rfl, rfl, rfl, by rw [List.size_toArray, lenV]; exact hl, by simpa using rv⟩) (fun b u z => by have z' : (none : Option HO) = some u := z; cases z') (fun b z => absurd rfl z) fun z => absurd rfl z
  | none =>
    refine core (fun b => if b = a then some (.frz { cls := .type "list", data := .seq vs.toArray } (.lst (ns.map V.int))) else none) (fun b => ?_) (.inl (.inr ⟨{ cls := .type "list", data := .seq vs.toArray }, if_pos rfl⟩)) (fun b u z => ?_) (fun b z => ?_) fun _ => hk
    · by_cases hb : b = a
      · exact .inr ⟨_, _, if_pos hb⟩
      · exact .inl (if_neg hb)
    · by_cases hb : b = a
      · have z' := (if_pos hb).symm.trans z
        cases z'
        subst hb
        exact ⟨ha, by rw [List.length_map]; exact hl, vs, _, rv, ha⟩
      · have z' := (if_neg hb).symm.trans z
        cases z'
    · by_cases hb : b = a
      · exact hb
      · exact absurd (if_neg hb) z
end L2

namespace L2
open PySem PySem.Spec PyProof.Rows

abbrev KOf {K : PySem.W.Frag} {h : Heap} (_ : K.In h) : PySem.W.Frag := K

/-- the goal that k_head leaves (case hc), from the law's promise. F gives the function object fd (K's own) once, then the promise over every base -/
theorem walk_of {l : PySem.W.OpenLaw} {n k : Nat} {q : Program} {loose : List Str} {XP : (Str → Option Value) → Heap → Prop} {YP : World → Heap → Prop} {d : DefRec} {K : Params → PySem.W.Frag} {CX : World → CXT} {sp : World → Sp} {x : Str}
    (hn : l.most = some n) (hn2 : n ≤ sizeLine) (hdf : d.params.defaults = []) (hr : Room k callerA)
    (hY : ∀ (w : World) (h : Heap), YP w h → (K w.params).In h)
    (F : ∀ (w : World) (mg : Str → Option Value) (fa : Addr) (h : Heap), (K w.params).In h → h.Ns mainGlobals mg → mg d.name = some (.ref fa) →
      ∃ fd : FuncData, (∀ (s : Shared) (u : Value), BindsTo s fd ⟨[u], []⟩ [(x, u)]) ∧
        ∀ base : Heap, (K w.params).In base → base.Ns mainGlobals mg → FnOk l.prog w (K w.params) mg base (CX w) k fa fd [x] (sp w))
    (hsp : ∀ (w : World) (H : Hp) (a : Addr) (ns : List Int), ns.length ≤ n → Only H → SqL (K w.params) H a (ns.map V.int) → sp w [.ref a] H (fun v _ => v = .bl true) fun _ _ _ => False)
    (hCX : ∀ (w : World) (H : Hp) (s : Shared) (e : Value) (s' : Shared), CX w [] H s (fun _ _ _ => False) e s' → False) :
    PySem.W.WalkO q loose XP YP l.row.toRowW d [] (fun f vs => PySem.call f vs) := by
  refine Att.attach_call hn hdf fun w s₀ s₁ mg mb fa o pm cd doc a vs ns G Y ho hd hcd hmg hobj hints hlen hg => ?_
  have KX := hY w _ Y
  obtain ⟨fd, hb, hF⟩ := F w mg fa _ KX G.T.g hmg
  exact law_call KX G.T.g G.T.b G.T.builtins G.T.nolimit hg hobj hints (Nat.le_trans hlen hn2) hr hF hb (fun H hO hS => hsp w H a ns hlen hO hS) fun H e s' => hCX w H s₁ e s'
/-- the same where the promise hangs on the written part alone: (sp := My.sp_law), no hole under a binder -/
theorem walk_ofK {l : PySem.W.OpenLaw} {n k : Nat} {q : Program} {loose : List Str} {XP : (Str → Option Value) → Heap → Prop} {YP : World → Heap → Prop} {d : DefRec} {K : Params → PySem.W.Frag} {CX : CXT} {sp : PySem.W.Frag → Sp} {x : Str}
    (hn : l.most = some n) (hn2 : n ≤ sizeLine) (hdf : d.params.defaults = []) (hr : Room k callerA)
    (hY : ∀ (w : World) (h : Heap), YP w h → (K w.params).In h)
    (F : ∀ (w : World) (mg : Str → Option Value) (fa : Addr) (h : Heap), (K w.params).In h → h.Ns mainGlobals mg → mg d.name = some (.ref fa) →
      ∃ fd : FuncData, (∀ (s : Shared) (u : Value), BindsTo s fd ⟨[u], []⟩ [(x, u)]) ∧
        ∀ base : Heap, (K w.params).In base → base.Ns mainGlobals mg → FnOk l.prog w (K w.params) mg base CX k fa fd [x] (sp (K w.params)))
    (hsp : ∀ (K : PySem.W.Frag) (H : Hp) (a : Addr) (ns : List Int), ns.length ≤ n → Only H → SqL K H a (ns.map V.int) → sp K [.ref a] H (fun v _ => v = .bl true) fun _ _ _ => False)
    (hCX : ∀ (H : Hp) (s : Shared) (e : Value) (s' : Shared), CX [] H s (fun _ _ _ => False) e s' → False) :
    PySem.W.WalkO q loose XP YP l.row.toRowW d [] (fun f vs => PySem.call f vs) :=
  walk_of (K := K) (CX := fun _ => CX) (sp := fun w => sp (K w.params)) hn hn2 hdf hr hY F (fun w H a ns h1 h2 h3 => hsp (K w.params) H a ns h1 h2 h3) fun _ H s e s' => hCX H s e s'
end L2



/-! SHORT WORDS over the layer: a def of the text, its body, what a loop and a test want. -/
namespace L2
open PySem PySem.Spec PyProof.Rows

/-! ### the text by places -/
/-- the j-th statement of a class's body -/
def inClass (s : Stmt) (j : Nat) : Stmt := match s with
  | .ClassDef _ _ _ body _ _ _ _ _ _ _ => body.getD j (.Pass ⟨0, 0, 0, 0⟩)
  | _ => .Pass ⟨0, 0, 0, 0⟩
def defArgs (s : Stmt) : Arguments := match s with
  | .FunctionDef _ a _ _ _ _ _ _ _ _ => a
  | _ => { posonlyargs := [], args := [], vararg := none, kwonlyargs := [], kw_defaults := [], kwarg := none, defaults := [] }
def defBody (s : Stmt) : List Stmt := match s with
  | .FunctionDef _ _ b _ _ _ _ _ _ _ => b
  | _ => []
def defScope (s : Stmt) : Scope := match s with
  | .FunctionDef _ _ _ _ _ _ sc _ _ _ => sc
  | _ => { kind := .function, names := [], isGenerator := false, isCoroutine := false }

/-! ### no exception leaves a def -/
abbrev CX0 : CXT := fun _ _ _ _ _ _ => False
abbrev E0 : XK := fun _ _ _ => False
theorem pass0 {X : Cx} : Passes CX0 X E0 := fun _ _ _ _ _ _ _ h => h.elim

/-! ### a def (or method) of the text as it stands behind the top -/
structure Fun (K : PySem.W.Frag) (x qual : Str) (st : Stmt) (f : Addr) (fd : FuncData) : Prop where
  ex : ∃ (oc : Value) (od : Option Addr) (kV doc pm : Value) (an : Option Addr) (cdv ct : Value) (osl : Array (Option Value)),
    fd = PySem.W.fnOf x qual (defArgs st) (defBody st) (defScope st) .none kV doc pm an cdv ct ∧ K.lookup f = some ⟨oc, od, .func fd, osl⟩ ∧ PySem.W.codeIn K cdv qual = true
  kp : PySem.W.keepIn K (.ref f) = true
section
variable {P : Program} {w : World} {K : PySem.W.Frag} {mg : Str → Option Value} {base : Heap}
/-- THE RULE for a def: its body as a term of rules, and the reading of that term -/
theorem Fun.ok {x qual : Str} {st : Stmt} {f : Addr} {fd : FuncData} {N ps : List Str} {k : Nat} {sp : Sp} (F : Fun K x qual st f fd) (S : FnScope N ps (defScope st)) (len : ∀ vs H Q E, sp vs H Q E → vs.length = ps.length)
    (hbody : ∀ (cdv : Value) (A : Around) (outer : List Env) (s : Shared) (H : Hp) (vs : List V) (Q : VK) (E : XK), Room k (A.deeper (envOfC qual (defScope st) s.heap.objs.size f cdv)) → sp vs H Q E →
      ∃ t, PSs (cxOf CX0 P w K mg base N qual (defScope st) f cdv A outer s H E).nox (defBody st) t ∧ t { nx := fun _ H' => Q .non H', rt := Q } (start N vs) H) : FnOk P w K mg base CX0 (k + 1) f fd ps sp := by
  obtain ⟨oc, od, kV, doc, pm, an, cdv, ct, osl, rfl, lk, hcd⟩ := F.ex
  refine fn_of lk hcd S len fun A outer s H vs Q E hr hsp => ?_
  obtain ⟨t, h, q⟩ := hbody cdv A outer s H vs Q E hr hsp
  exact ⟨t, h.nox, q⟩
/-- how its arguments bind (no defaults): h is «fun _ _ _ _ _ _ us hl => match us, hl with | [_, _], _ => rfl», one _ a parameter -/
theorem Fun.binds {x qual : Str} {st : Stmt} {f : Addr} {fd : FuncData} {ps : List Str} (F : Fun K x qual st f fd)
    (h : ∀ (kV doc pm : Value) (an : Option Addr) (cdv ct : Value) (us : List Value), us.length = ps.length → bindArgs (PySem.W.fnOf x qual (defArgs st) (defBody st) (defScope st) .none kV doc pm an cdv ct) ⟨us, []⟩ = pure (ps.zip us)) : Binds K fd ps [] := by
  obtain ⟨oc, od, kV, doc, pm, an, cdv, ct, osl, rfl, lk, hcd⟩ := F.ex
  exact .all (h kV doc pm an cdv ct)
theorem fun_mk {x qual : Str} {st : Stmt} {f : Addr} {oc : Value} {od an : Option Addr} {osl : Array (Option Value)} {kV doc pm cdv ct : Value} (l : K.lookup f = some ⟨oc, od, .func (PySem.W.fnOf x qual (defArgs st) (defBody st) (defScope st) .none kV doc pm an cdv ct), osl⟩)
    (c : PySem.W.codeIn K cdv qual = true) (k : PySem.W.keepIn K (.ref f) = true) : Fun K x qual st f (PySem.W.fnOf x qual (defArgs st) (defBody st) (defScope st) .none kV doc pm an cdv ct) := ⟨⟨oc, od, kV, doc, pm, an, cdv, ct, osl, rfl, l, c⟩, k⟩
end
theorem small1000 {n : Nat} (h : n ≤ 1000) : n < sizeLine := Nat.lt_of_le_of_lt h (by decide)

/-! ### expressions in short: the name that stands in the i-th slot -/
section
variable {X : Cx}
theorem pv (i : Nat) {x : Str} {pos : Pos} (hN : X.N[i]? = some x := by rfl) (hv : Vis X.env.scope x := by first | exact Or.inl rfl | exact Or.inr (Or.inl rfl) | exact Or.inr (Or.inr rfl)) (hd : (x == ("__debug__" : Str)) = false := by decide)
    (hcd : (x == ("__classdict__" : Str)) = false := by decide) : PE X (.Name x pos) (tVar i) := pe_var hN hv hd hcd
end

/-! ### tests -/
/-! ### heaps -/
/-- all that was tracked is as it was -/
def Same (H H' : Hp) : Prop := ∀ b o, H b = some o → H' b = some o
theorem Same.refl (H : Hp) : Same H H := fun _ _ h => h
theorem Same.trans {H H1 H2 : Hp} (a : Same H H1) (b : Same H1 H2) : Same H H2 := fun c o h => b c o (a c o h)
theorem Same.free {H H' : Hp} (e : Same H H') {l : Addr} (h : H' l = Option.none) : H l = Option.none := by
  cases q : H l with
  | none => rfl
  | some o =>
    rw [e l o q] at h
    cases h
theorem Same.seq {K : PySem.W.Frag} {H H' : Hp} {a : Addr} {xs : List V} (e : Same H H') (h : SqL K H a xs) : SqL K H' a xs := by
  rcases h with (h | ⟨o, h⟩) | h
  · exact .inl (.inl (e _ _ h))
  · exact .inl (.inr ⟨o, e _ _ h⟩)
  · exact .inr h


/-! ### a dict's pairs: keys that differ -/
section
variable {κ : Type} [DecidableEq κ]
theorem nd_snoc : ∀ {l : List κ} {k : κ}, l.Nodup → ¬ k ∈ l → (l ++ [k]).Nodup
  | [], k, _, _ => by simp
  | a :: r, k, h, hk => by
    obtain ⟨h1, h2⟩ := List.nodup_cons.mp h
    show (a :: (r ++ [k])).Nodup
    refine List.nodup_cons.mpr ⟨fun m => ?_, nd_snoc h2 fun m => hk (List.mem_cons.mpr (Or.inr m))⟩
    rcases List.mem_append.mp m with q | q
    · exact h1 q
    · exact hk (List.mem_cons.mpr (Or.inl (List.mem_singleton.mp q).symm))
end
end L2


/-! ## My extension of the layer -/
namespace PySem
open Sem (wp)
theorem forIn_cl {env : Env} {f : Str × NameKind → List (Str × Addr) → Sem (ForInStep (List (Str × Addr)))}
    (h1 : ∀ x r, x.2 ≠ .free → f x r = pure (.yield r)) (h2 : ∀ x r c, x.2 = .free → env.cells.lookup x.1 = some c → f x r = pure (.yield ((x.1, c) :: r))) :
    ∀ (l : List (Str × NameKind)) (acc : List (Str × Addr)), (∀ x ∈ l, x.2 = .free → ∃ c, env.cells.lookup x.1 = some c) → (∀ x c, acc.lookup x = some c → env.cells.lookup x = some c) →
      ∃ cl, forIn l acc f = pure cl ∧ (∀ x c, cl.lookup x = some c → env.cells.lookup x = some c) ∧ (∀ x ∈ l, x.2 = .free → ∃ c, cl.lookup x.1 = some c) ∧ (∀ x c, acc.lookup x = some c → ∃ c', cl.lookup x = some c')
  | [], acc, _, ha => ⟨acc, rfl, ha, (fun _ h => nomatch h), (fun x c h => ⟨c, h⟩)⟩
  | x :: l, acc, h, ha => by
    by_cases hf : x.2 = .free
    · obtain ⟨c, hc⟩ := h x List.mem_cons_self hf
      have hself : ((x.1, c) :: acc).lookup x.1 = some c := by rw [List.lookup_cons]; simp
      have hne : ∀ y, y ≠ x.1 → ((x.1, c) :: acc).lookup y = acc.lookup y := fun y e => by
        have : (y == x.1) = false := beq_eq_false_iff_ne.mpr e
        rw [List.lookup_cons, this]
      have ha' : ∀ y d, ((x.1, c) :: acc).lookup y = some d → env.cells.lookup y = some d := fun y d hy => by
        by_cases e : y = x.1
        · subst e; rw [hself] at hy; cases hy; exact hc
        · rw [hne y e] at hy; exact ha y d hy
      obtain ⟨cl, e1, e2, e3, e4⟩ := forIn_cl h1 h2 l ((x.1, c) :: acc) (fun y hy => h y (List.mem_cons_of_mem _ hy)) ha'
      refine ⟨cl, ?_, e2, fun y hy hk => ?_, fun y d hy => ?_⟩
      · rw [List.forIn_cons, h2 x acc c hf hc, pure_bind]; exact e1
      · rcases List.mem_cons.mp hy with rfl | hy
        · exact e4 _ c hself
        · exact e3 y hy hk
      · by_cases e : y = x.1
        · subst e; exact e4 _ c hself
        · exact e4 y d (by rw [hne y e]; exact hy)
    · obtain ⟨cl, e1, e2, e3, e4⟩ := forIn_cl h1 h2 l acc (fun y hy => h y (List.mem_cons_of_mem _ hy)) ha
      refine ⟨cl, ?_, e2, fun y hy hk => ?_, e4⟩
      · rw [List.forIn_cons, h1 x acc hf, pure_bind]; exact e1
      · rcases List.mem_cons.mp hy with rfl | hy
        · exact (hf hk).elim
        · exact e3 y hy hk
theorem closure_ok {scope : Scope} {env : Env} (h : ∀ x ∈ scope.names, x.2 = .free → ∃ c, env.cells.lookup x.1 = some c) :
    ∃ cl, closureFor scope env = pure cl ∧ (∀ x c, cl.lookup x = some c → env.cells.lookup x = some c) ∧ ∀ x ∈ scope.names, x.2 = .free → ∃ c, cl.lookup x.1 = some c := by
  obtain ⟨cl, e1, e2, e3, _⟩ := forIn_cl (env := env) (f := fun x r => match x with | (name, kind) => if (kind == .free) = true then (do let c ← cellOf env name; pure (ForInStep.yield ((name, c) :: r))) else pure (ForInStep.yield r))
    (fun x r hx => by
      obtain ⟨n, k⟩ := x
      have : (k == NameKind.free) = false := by simpa using hx
      simp only [this, Bool.false_eq_true, if_false])
    (fun x r c hx hc => by
      obtain ⟨n, k⟩ := x
      have hx : k = .free := hx
      have hc : env.cells.lookup n = some c := hc
      subst hx
      simp only [cellOf, hc, beq_self_eq_true, if_true, pure_bind]) scope.names [] h (by simp)
  refine ⟨cl, ?_, e2, e3⟩
  unfold closureFor
  first
    | (rw [show _ = pure cl from e1]; rfl)
    | exact (congrArg (· >>= pure) e1).trans (pure_bind ..)

section
variable {prog : Program} {w : World} {A : Around} {R : Result → Shared → Prop} {s : Shared}
theorem codeAny_compLoop_gen {elt target iter : Expr} {scope : Scope} {pos : Pos} {it acc : Value} {env : Env} (I : Nat → Shared → Prop)
    (turn : ∀ n s, I n s → wpAny (model prog w) A (pyNext it) (fun r s₁ => match r with
      | none => R (.ok .next) s₁
      | some v => wpAny (model prog w) A (letOwnedTupleGo target it v) (fun _ s₂ => wpAny (model prog w) A (assign target env v) (fun _ s₃ => wpAny (model prog w) A (eval elt env) (fun x s₄ =>
          wpAny (model prog w) A (call (.builtin "list.append") [acc, x]) (fun _ s₅ => ∃ m, m < n ∧ I m s₅) (fun _ _ => False) s₄) (fun _ _ => False) s₃) (fun _ _ => False) s₂) (fun _ _ => False) s₁) (fun _ _ => False) s)
    (n : Nat) (h : I n s) : codeAny (model prog w) A (.compLoop (.ListComp elt [⟨target, iter, [], 0⟩] scope pos) 0 it acc env) R s := by
  refine codeAny_loop rfl I (fun n s hI => ?_) n h
  show wpAny _ _ ((compTurn (.ListComp elt [⟨target, iter, [], 0⟩] scope pos) 0 it acc env).onRaise (fun x => do noteFrame x env; theTreesLotGoes x)) _ _ s
  refine wpAny_noted ?_
  rw [compTurn_list1]
  refine wpAny_bind (wpAny_standAt (wpAny_bind (wpAny_mono (turn n s hI) (fun r s₁ h₁ => ?_) fun _ _ h' => h'.elim)))
  cases r with
  | none => exact wpAny_pure h₁
  | some v =>
    exact wpAny_bind (wpAny_mono h₁ (fun _ s₂ h₂ => wpAny_bind (wpAny_mono h₂ (fun _ s₃ h₃ => wpAny_bind (wpAny_bind (wpAny_mono h₃ (fun x s₄ h₄ => wpAny_bind (wpAny_mono h₄
      (fun _ s₅ h₅ => wpAny_pure (wpAny_pure ⟨rfl, h₅⟩)) fun _ _ h' => h'.elim)) fun _ _ h' => h'.elim))) fun _ _ h' => h'.elim)) fun _ _ h' => h'.elim)
end
end PySem

namespace L2
open PySem PySem.Spec PyProof.Rows

section
variable {X : Cx} {pins : List (Addr × Obj)} {σ : St} {H : Hp} {s : Shared} {h' : Heap}
/-- the records at ch turn, a new object is laid and tracked -/
theorem Inv.turnL {t' : Nat} {ch : List Addr} {t : Addr} {o : HO} (I : Inv X pins σ H s) (hf : ∀ b ∈ ch, FpOk X pins H b)
    (k : ∀ b u, b ∉ ch → s.heap.get? b = some u → h'.get? b = some u) (hp : s.heap.objs.size ≤ t) (new : ObjOk X.prog X.w (upd H t o) h' t o) :
    Inv X pins σ (upd H t o) { s with heap := h', toks := t' } := by
  have hn : H t = none := I.hok.fresh hp
  have nch : ∀ b u, H b = some u → b ∉ ch := fun b u e z => by rw [(hf b z).1] at e; cases e
  have net : ∀ b u, s.heap.get? b = some u → b ≠ t := fun b u e => Nat.ne_of_lt (Nat.lt_of_lt_of_le (Heap.lt_size e) hp)
  refine I.step (g' := s.gens) (d' := s.drawn) (ch := ch) (fun b hb => ?_) (fun b u _ _ hc e _ => k b u hc e) (fun b u _ _ hc e _ => ⟨u.slots, k b u hc e⟩)
    (fun b u _ e n => by rw [upd_ne (net b u e)]; exact n) (fun b u hc e => ⟨u, k b u hc e⟩)
    (fun b xs e => by rw [upd_ne (ne_of_none e hn)]; exact e) (fun b u xs e => by rw [upd_ne (ne_of_none e hn)]; exact e)
    (fun b ps e => ⟨#[], by rw [upd_ne (ne_of_none e hn), e]; simp⟩) (fun m hm => ?_) (fun b u e => ?_) I.bare
  · obtain ⟨_, f1, _, f3, f4, f5⟩ := hf b hb
    exact ⟨f3, f1, f4, f5⟩
  · obtain ⟨ob, es, ep, ho, r⟩ := hm
    exact ⟨ob, es, ep, k _ ob (fun z => (hf _ z).2.1 rfl) ho, r⟩
  · by_cases hb : b = t
    · subst hb; rw [upd_same] at e; cases e; exact new
    · rw [upd_ne hb] at e
      refine (I.hok b u e).stay (fun c v hc q => k c v ?_ q) (fun c q => by rw [upd_ne (ne_of_none q hn)]; exact q) fun c xs q => by rw [upd_ne (ne_of_none q hn)]; exact q
      rcases hc with z | z
      · rw [z]; exact nch b u e
      · exact nch c _ z
end

/-! ### enumerate of a list, its pairs taken apart on the spot -/
def Ite (K : PySem.W.Frag) (a : Addr) : It :=
  ⟨fun i H => ∃ xs x, SqL K H a xs ∧ xs[i]? = some x,
   fun i H x H' => ∃ t v, x = .ref t ∧ H t = none ∧ H' = upd H t (.tup [.int (i : Int), v]) ∧ ∀ xs, SqL K H a xs → xs[i]? = some v,
   fun i H => ∃ xs, SqL K H a xs ∧ xs.length ≤ i⟩
theorem turn_enum {P : Program} {w : World} {K : PySem.W.Frag} {es : List Expr} {kk : Nat} {pos : Pos} (a it e : Addr) (hne : e ≠ it) :
    Turn P w K (.Tuple es kk pos) (Ite K a) [e, it] e (fun i h => (∃ old, IsEnum h e it ((i : Nat) : Int) old) ∧ h.IsListIter it a i) where
  mem := by simp
  obj := fun i h st b hb => by
    obtain ⟨⟨old, he⟩, hi⟩ := st
    rcases List.mem_cons.mp hb with rfl | hb
    · exact ⟨_, he, fun v z => by
        have z' : Data.fields _ = Data.cell v := z
        cases z'⟩
    · have eb := List.mem_singleton.mp hb
      subst eb
      obtain ⟨o, e1, c, d⟩ := hi
      exact ⟨o, e1, fun v z => by rw [d] at z; cases z⟩
  keep := fun i h h' st k => by
    obtain ⟨⟨old, he⟩, hi⟩ := st
    exact ⟨⟨old, k e (by simp) _ he⟩, hi.at fun o q => k it (by simp) o q⟩
  item := by
    intro X hP hw hK hc i pins s σ H E I hf st hg
    subst hP hw hK
    obtain ⟨⟨old, he⟩, hi⟩ := st
    obtain ⟨xs, x, hq, hx⟩ := hg
    obtain ⟨its, rv, p, hz⟩ := I.list hq
    obtain ⟨u, hu, ru⟩ := rv.get hx
    have hel : e < s.heap.objs.size := Heap.lt_size he
    have hil : it < s.heap.objs.size := by obtain ⟨o, q, _⟩ := id hi; exact Heap.lt_size q
    refine wpAny_pyNext_enum_item he hi p.isList (x := u) (by simpa using hu) hne fun h1 ho hi1 hT hsz hk => ?_
    refine ⟨_, rfl, wpAny_letOwnedTupleGo_enum ho fun h2 he2 hs2 => ?_⟩
    replace hs2 : Heap.SameBut e h1 h2 := hs2
    have hT2 : h2.get? s.heap.objs.size = some { cls := .type "tuple", data := .seq #[.int (i : Int) s.toks, u] } := (hs2.2 _ (Nat.ne_of_gt hel)).trans hT
    have I1 : Inv X pins σ (upd H s.heap.objs.size (.tup [.int (i : Int), x])) { s with heap := h2, toks := s.toks + 1 } :=
      I.turnL (ch := [e, it]) hf (fun b o hb q => by
        have hbe : b ≠ e := fun z => hb (by simp [z])
        have hbi : b ≠ it := fun z => hb (by simp [z])
        exact hs2.extBut b o hbe (hk b o hbe hbi q)) (Nat.le_refl _)
        ⟨by show 2 ≤ sizeLine; decide, [.int (i : Int) s.toks, u], .cons ⟨_, rfl⟩ (.cons ru .nil), ⟨_, hT2, rfl, _, rfl⟩⟩
    refine ⟨.ref s.heap.objs.size, _, I1, rfl, ⟨_, x, rfl, I.hok.fresh (Nat.le_refl _), rfl, fun ys hy => by rw [I.list_inj hy hq]; exact hx⟩, ⟨⟨u, ?_⟩, ?_⟩, fun b hb => ?_⟩
    · have : ((i + 1 : Nat) : Int) = (i : Int) + 1 := by push_cast; rfl
      rw [this]; exact he2
    · exact hi1.extBut hs2.extBut (Ne.symm hne)
    · have hbl : b < s.heap.objs.size := by
        rcases List.mem_cons.mp hb with rfl | hb
        · exact hel
        · rw [List.mem_singleton.mp hb]; exact hil
      rw [upd_ne (Nat.ne_of_lt hbl)]
      exact (hf b hb).1
  done := by
    intro X hP hw hK hc i pins s σ H E I hf st hg
    subst hP hw hK
    obtain ⟨⟨old, he⟩, hi⟩ := st
    obtain ⟨xs, hq, hx⟩ := hg
    obtain ⟨its, rv, p, hz⟩ := I.list hq
    obtain ⟨f0, f1, f2, f3, f4, f5⟩ := hf it (by simp)
    have hl := rv.length
    exact wpAny_pyNext_enum_end (I.ok.hd hc) he hi p.isList (by simp; omega) fun h' eb => ⟨rfl, I.turned (t' := s.toks) (fun b o hb e => eb b o hb e) f0 f1 f3 f4 f5⟩
  self := fun _ _ _ _ _ st h => by
    obtain ⟨⟨old, he⟩, _⟩ := st
    exact wpAny_pyIter_enum he h
section
variable {X : Cx}
def iEnum (K : PySem.W.Frag) (ta : TA) : TI := fun σ H R => ta σ H fun vs H1 => ∃ a, vs = [.ref a] ∧ (∃ xs, SqL K H1 a xs) ∧ R (Ite K a) H1
theorem pi_enum {es : List Expr} {kk : Nat} {p0 : Pos} {l : Expr} {ta : TA} {p pos : Pos} (hg : Gl X "enumerate") (hm : X.mg "enumerate" = none) (ha : PA X [l] ta) (hs : starEach [l] X.env = [(false, eval l X.env)] := by rfl) :
    PI X (.Tuple es kk p0) (.Call (.Name "enumerate" p) [l] [] pos) (iEnum X.K ta) := by
  intro pins s σ H R I h
  refine Call_ (ld_blt I hg hm boot_enumerate (PyProof.Rows.callWith_type1 (thn (ha pos pins s σ H _ I h) fun us s1 ⟨vs, H1, I1, r1, q1⟩ => ?_) hs rfl))
  obtain ⟨a, e, ⟨xs, hq⟩, q⟩ := q1
  subst e
  cases r1 with
  | cons r rr =>
    cases rr
    cases r
    obtain ⟨its, rv, p, hz⟩ := I1.list hq
    refine call_enumerate_list p.isList fun h' he hi hsz hk => ?_
    refine wpAny_pyIter_enum he ?_
    have I2 : Inv X pins σ H1 { s1 with heap := h' } := I1.kept (t' := s1.toks) hk
    refine ⟨s1.heap.objs.size + 1, [s1.heap.objs.size + 1, s1.heap.objs.size], _, _, H1, rfl, I2, turn_enum a s1.heap.objs.size (s1.heap.objs.size + 1) (Nat.succ_ne_self _), ⟨⟨_, he⟩, hi⟩, fun b hb => ?_, q⟩
    have hb' : s1.heap.objs.size ≤ b := by
      rcases List.mem_cons.mp hb with rfl | hb
      · exact Nat.le_succ _
      · rw [List.mem_singleton.mp hb]; exact Nat.le_refl _
    exact I1.fpOk hb' (I1.hok.fresh hb')
/-- over the pairs of a list that the body leaves as it is -/
theorem for_enum {K : PySem.W.Frag} {a : Addr} {xs : List V} {g : TG} {tb : TS} {D : Ends} {σ : St} {H : Hp} (Pv : Nat → St → Hp → Prop) (h0 : Pv 0 σ H) (hl : ∀ i σ H, i ≤ xs.length → Pv i σ H → SqL K H a xs)
    (hs : ∀ i x σ H t, xs[i]? = some x → Pv i σ H → H t = none → g (.ref t) σ (upd H t (.tup [.int (i : Int), x])) fun σ2 H2 => tb { D with nx := Pv (i + 1), ct := Pv (i + 1), bk := D.nx } σ2 H2) (hd : ∀ σ H, Pv xs.length σ H → D.nx σ H) :
    ∃ W : Nat → Nat → St → Hp → Prop, (∃ m, W 0 m σ H) ∧ ∀ i m σ H, W i m σ H →
      ((Ite K a).stop i H ∧ D.nx σ H) ∨ ((Ite K a).go i H ∧ ∃ N : St → Hp → Prop, (∀ σ' H', N σ' H' → ∃ m', m' < m ∧ W (i + 1) m' σ' H') ∧ ∀ x H', (Ite K a).yld i H x H' → g x σ H' fun σ2 H2 => tb { D with nx := N, ct := N, bk := D.nx } σ2 H2) := by
  refine ⟨fun i m σ H => m = xs.length - i ∧ i ≤ xs.length ∧ Pv i σ H, ⟨xs.length, by simp, Nat.zero_le _, h0⟩, ?_⟩
  rintro i m σ H ⟨rfl, hi, p⟩
  have q := hl i σ H hi p
  by_cases hlt : i < xs.length
  · refine .inr ⟨⟨xs, xs[i], q, by simp [hlt]⟩, Pv (i + 1), fun σ' H' p' => ⟨xs.length - (i + 1), by omega, rfl, hlt, p'⟩, fun x H' y => ?_⟩
    obtain ⟨t, v, rfl, ht, rfl, y⟩ := y
    exact hs i v σ H t (y xs q) p ht
  · have e : i = xs.length := by omega
    subst e
    exact .inl ⟨⟨xs, q, Nat.le_refl _⟩, hd σ H p⟩
end

/-! ### list comprehensions, one clause, no test -/
def relS (scope sc0 : Scope) : Scope := { scope with names := scope.names.map fun (n, k) => if (k == .free && sc0.kind == .function && sc0.names.lookup n == some .cell) then (n, .cell) else (n, k) }
def blk (X : Cx) (N' : List Str) (scope : Scope) (cl : List (Str × Addr)) (C : Addr) (s : Shared) (H : Hp) (ex : List Addr) (pins : List (Addr × Obj)) : Cx :=
  { X with N := N', s₀ := s, H₀ := H, env := compEnvC scope cl C X.env, outer := X.stack, ex := ex, fn := fun _ => false, pn := X.pn ++ pins, xe := fun _ _ => False }
def capOk (N : List Str) (sc : Scope) (p : Str × Option Nat) : Bool :=
  match p.2 with
  | none => true
  | some j => N[j]? == some p.1 && sc.names.lookup p.1 == some NameKind.free
/-- the block's names N', caps: from which slot of the def each comes (none: its own) -/
structure BlkScope (N : List Str) (sc0 sc : Scope) (N' : List Str) (caps : List (Option Nat)) : Prop where
  kind : sc.kind = .function
  names : ∀ x ∈ sc.names, x.2 = .local → sc.names.lookup x.1 = some .local
  nocell : ∀ x ∈ sc.names, x.2 ≠ .cell
  frees : ∀ x ∈ sc.names, x.2 = .free → sc0.names.lookup x.1 = some .cell ∨ sc0.names.lookup x.1 = some .free
  len : caps.length = N'.length
  cap : ((N'.zip caps).all (capOk N sc)) = true
  nd : N'.Nodup
def capσ (caps : List (Option Nat)) (σ : St) : St := caps.map fun o => o.bind fun j => σ.getD j none
def Wk (σ' σ : St) : Prop := σ'.length = σ.length ∧ ∀ (i : Nat) v, σ'[i]? = some (some v) → σ[i]? = some (some v)
theorem Wk.set {σ : St} {i : Nat} {v : V} (h : σ[i]? = some none) : Wk σ (σ.set i (some v)) := by
  refine ⟨by simp, fun j w e => ?_⟩
  by_cases hj : i = j
  · subst hj; rw [h] at e; cases e
  · rw [List.getElem?_set_ne hj]; exact e
theorem lookup_relS {names : List (Str × NameKind)} {f : Str × NameKind → Str × NameKind} (hf : ∀ x, (f x).1 = x.1) {x : Str} {k : NameKind} (h : (names.map f).lookup x = some k) : ∃ y ∈ names, y.1 = x ∧ (f y).2 = k := by
  induction names with
  | nil => simp at h
  | cons y r ih =>
    rw [List.map_cons] at h
    have hl : List.lookup x (f y :: r.map f) = match x == (f y).1 with | true => some (f y).2 | false => List.lookup x (r.map f) := by
      cases f y with
      | mk a b =>
        simp only [List.lookup_cons]
        cases x == a <;> rfl
    rw [hl] at h
    cases hb : x == (f y).1 with
    | true =>
      rw [hb] at h
      cases h
      exact ⟨y, List.mem_cons_self, by rw [← hf y]; exact (beq_iff_eq.mp hb).symm, rfl⟩
    | false =>
      rw [hb] at h
      obtain ⟨z, hz, e1, e2⟩ := ih h
      exact ⟨z, List.mem_cons_of_mem _ hz, e1, e2⟩

section
variable {X : Cx} {pins : List (Addr × Obj)} {σ : St} {H : Hp} {s : Shared} {scope : Scope} {cl : List (Str × Addr)} {C : Addr} {N' : List Str} {ex : List Addr} {caps : List (Option Nat)}
theorem blk_ok (I : Inv X pins σ H s) (S : BlkScope X.N X.env.scope scope N' caps) (hcl1 : ∀ x c, cl.lookup x = some c → X.env.cells.lookup x = some c) (hcl2 : ∀ x ∈ scope.names, x.2 = .free → ∃ c, cl.lookup x.1 = some c)
    (hC : s.heap.objs.size ≤ C) (hf : ∀ b ∈ ex, FpOk X pins H b) (hex : ∀ b ∈ ex, b < s.heap.objs.size) : (blk X N' scope cl C s H ex pins).Ok where
  mod := I.ok.mod
  kind := S.kind
  glob := I.ok.glob
  blt := I.ok.blt
  above := hC
  inj := fun x y c hx hy => I.ok.inj x y c (hcl1 x c hx) (hcl1 y c hy)
  has := fun x hx => by
    have hx' : (relS scope X.env.scope).names.lookup x = some .cell ∨ (relS scope X.env.scope).names.lookup x = some .free := hx
    have fin : ∀ k, (k = NameKind.cell ∨ k = NameKind.free) → (relS scope X.env.scope).names.lookup x = some k → ∃ c, cl.lookup x = some c := fun k hk hl => by
      obtain ⟨y, hy, e1, e2⟩ := lookup_relS (fun z => by obtain ⟨n, k⟩ := z; dsimp only; split <;> rfl) hl
      obtain ⟨n, k0⟩ := y
      have e1 : n = x := e1
      subst e1
      have hfree : k0 = .free := by
        dsimp only at e2
        split at e2
        · rename_i hcond
          simp only [Bool.and_eq_true, beq_iff_eq] at hcond
          exact hcond.1.1
        · have e2 : k0 = k := e2
          rcases hk with rfl | rfl
          · exact absurd e2 (S.nocell _ hy)
          · exact e2
      exact hcl2 _ hy hfree
    rcases hx' with h | h
    · exact fin _ (.inl rfl) h
    · exact fin _ (.inr rfl) h
  cab := fun _ _ h => by cases h
  hd := I.ok.hd
  frames := I.ok.frames
  stk := .inl rfl
  exf := fun b hb => ⟨Nat.ne_of_lt (Nat.lt_of_lt_of_le (hex b hb) hC), fun x c hc => (hf b hb).2.2.2.2.1 x c (hcl1 x c hc)⟩
  bs := I.bs
  bsz := Nat.le_trans I.ok.bsz I.sz
  noex := fun b o e hb => by
    rcases (hf b hb).2.2.2.1 with z | z
    · exact I.ok.noex b o e z
    · exact absurd (Nat.lt_of_lt_of_le (Heap.lt_size (I.ok.bs b o e).1) z) (Nat.lt_irrefl _)
  exfs := fun b hb hm => by
    rcases List.mem_cons.mp (I.stkSub b hm) with z | z
    · exact (hf b hb).2.1 z
    · exact (hf b hb).2.2.1 z
  funs := I.stack
  frf := I.stkFree

theorem capσ_get {i : Nat} {v : V} (h : (capσ caps σ)[i]? = some (some v)) : ∃ j, caps[i]? = some (some j) ∧ σ[j]? = some (some v) := by
  unfold capσ at h
  rw [List.getElem?_map] at h
  cases hc : caps[i]? with
  | none => rw [hc] at h; simp at h
  | some o =>
    rw [hc] at h
    cases o with
    | none => simp at h
    | some j =>
      refine ⟨j, rfl, ?_⟩
      have h : σ.getD j none = some v := by simpa using h
      rw [List.getD_eq_getElem?_getD] at h
      cases hj : σ[j]? with
      | none => rw [hj] at h; simp at h
      | some w => rw [hj] at h; simp at h; rw [h]

theorem blk_inv {acc n t' : Nat} {h₁ : Heap} {m : Str → Option Value} (I : Inv X pins σ H s) (S : BlkScope X.N X.env.scope scope N' caps) (hcl1 : ∀ x c, cl.lookup x = some c → X.env.cells.lookup x = some c) (hcl2 : ∀ x ∈ scope.names, x.2 = .free → ∃ c, cl.lookup x.1 = some c)
    (hC : s.heap.objs.size ≤ C) (hf : ∀ b ∈ ex, FpOk X pins H b) (hex : ∀ b ∈ ex, b < s.heap.objs.size) (hns : h₁.Ns C m) (old : ∀ b o, s.heap.get? b = some o → h₁.get? b = some o)
    (hacc : h₁.get? acc = some { cls := .type "list", data := .seq #[] n }) (hge : s.heap.objs.size ≤ acc) (hne : acc ≠ C) :
    Inv (blk X N' scope cl C s H ex pins) [] (capσ caps σ) (upd H acc (.lst [])) { s with heap := h₁, toks := t' } where
  ok := blk_ok I S hcl1 hcl2 hC hf hex
  os := rfl
  bare := I.bare
  base := Un.laid old hge (I.hok.fresh hge)
  loc := ⟨m, hns, fun i x v e1 e2 e3 => by
    obtain ⟨j, hj, hv⟩ := capσ_get e2
    have hz : (x, some j) ∈ N'.zip caps := by
      have : (N'.zip caps)[i]? = some (x, some j) := by rw [List.getElem?_zip_eq_some]; exact ⟨e1, hj⟩
      exact List.mem_of_getElem? this
    have hk := List.all_eq_true.mp S.cap _ hz
    simp only [capOk, Bool.and_eq_true, beq_iff_eq] at hk
    obtain ⟨hN, hfr⟩ := hk
    have hmem : (x, NameKind.free) ∈ scope.names := by
      have e : ∀ {l : List (Str × NameKind)}, l.lookup x = some .free → (x, NameKind.free) ∈ l := fun {l} => mem_of_lookup
      exact e hfr
    have h0 := S.frees _ hmem rfl
    obtain ⟨m0, hn0, hl⟩ := I.loc
    obtain ⟨u, r, l⟩ := hl j x v hN hv (by
      rcases h0 with h0 | h0
      · exact .inr (.inl h0)
      · exact .inr (.inr h0))
    refine ⟨u, r, ?_⟩
    have hcase : ∃ c, X.env.cells.lookup x = some c ∧ s.heap.IsCell c (some u) := by
      rcases l with ⟨hk, _⟩ | ⟨_, c, hc, hcell⟩
      · have hk' : X.env.scope.names.lookup x = some .local := hk
        rcases h0 with h0 | h0 <;> (rw [h0] at hk'; cases hk')
      · exact ⟨c, hc, hcell⟩
    obtain ⟨c, hc, hcell⟩ := hcase
    obtain ⟨c', hc'⟩ := hcl2 _ hmem rfl
    have ec := hcl1 x c' hc'
    rw [hc] at ec
    cases ec
    refine .inr ⟨?_, c, hc', hcell.keeps old⟩
    have e3' : Vis (relS scope X.env.scope) x := e3
    rcases e3' with h | h | h
    · exfalso
      obtain ⟨y, hy, q1, q2⟩ := lookup_relS (fun z => by obtain ⟨n, k⟩ := z; dsimp only; split <;> rfl) h
      obtain ⟨nn, k0⟩ := y
      have q1 : nn = x := q1
      subst q1
      dsimp only at q2
      split at q2
      · cases q2
      · have q2 : k0 = .local := q2
        subst q2
        have := S.names _ hy rfl
        have this : scope.names.lookup nn = some .local := this
        rw [hfr] at this; cases this
    · exact .inl h
    · exact .inr h⟩
  cell := fun x c e => let ⟨v, z⟩ := I.cell x c (hcl1 x c e); ⟨v, z.keeps old⟩
  free := by
    show upd H acc (.lst []) C = none
    rw [upd_ne (Ne.symm hne)]; exact I.hok.fresh hC
  freeC := fun x c e => by
    obtain ⟨v, z⟩ := I.cell x c (hcl1 x c e)
    have hl : c ≠ acc := Nat.ne_of_lt (Nat.lt_of_lt_of_le z.lt hge)
    rw [upd_ne hl]; exact I.freeC x c (hcl1 x c e)
  pin := fun p hp => by
    have hp' : p ∈ X.pn ++ pins := by
      have : p ∈ (X.pn ++ pins) ++ [] := hp
      simpa using this
    obtain ⟨e, n, ne, nf, d⟩ := I.pin p hp'
    have hlt := Heap.lt_size e
    refine ⟨old _ _ e, ?_, Nat.ne_of_lt (Nat.lt_of_lt_of_le hlt hC), fun z => ?_, d⟩
    · rw [upd_ne (Nat.ne_of_lt (Nat.lt_of_lt_of_le hlt hge))]; exact n
    · rcases List.mem_cons.mp (I.stkSub _ z) with z | z
      · exact ne z
      · exact nf z
  hok := I.hok.laid old hge ⟨Nat.zero_le _, [], n, .nil, hacc⟩
  len := by
    show (capσ caps σ).length = N'.length
    unfold capσ; rw [List.length_map]; exact S.len

/-- back from the block -/
theorem blk_back {H' : Hp} {s' : Shared} {σ' : St} {pins' : List (Addr × Obj)} (I : Inv X pins σ H s) (J : Inv (blk X N' scope cl C s H ex pins) pins' σ' H' s') (hf : ∀ b ∈ ex, FpOk X pins H b) : Inv X pins σ H' s' :=
  I.call' (ch := ex) J.os J.base J.hok J.bare fun b hb => by
    obtain ⟨_, f1, _, f3, f4, f5⟩ := hf b hb
    exact ⟨f3, f1, f4, f5⟩
/-- an untracked object at C, younger than the state s, has changed -/
theorem Inv.letC {H' : Hp} {s' : Shared} {h'' : Heap} {σ' : St} (I : Inv X pins σ H s) (hC : s.heap.objs.size ≤ C) (J : Inv X pins σ' H' s') (hn : H' C = none) (hs : Heap.SameBut C s'.heap h'') : Inv X pins σ' H' { s' with heap := h'' } := by
  refine J.turned (it := C) (t' := s'.toks) (fun b o hb e => (hs.2 b hb).trans e) hn (Nat.ne_of_gt (Nat.lt_of_lt_of_le I.lt hC)) (.inr (Nat.le_trans I.sz hC)) (fun x c e => ?_) fun p hp => ?_
  · obtain ⟨v, z⟩ := I.cell x c e
    exact Nat.ne_of_lt (Nat.lt_of_lt_of_le z.lt hC)
  · obtain ⟨e, _⟩ := I.pin p hp
    exact Nat.ne_of_lt (Nat.lt_of_lt_of_le (Heap.lt_size e) hC)
end

def tComp (wi : TI) (g : TG) (te : TE) (caps : List (Option Nat)) : TE := fun σ H Q => wi σ H fun J H1 => ∀ acc, H1 acc = none → ∃ W : Nat → Nat → List V → Hp → Prop, (∃ m, W 0 m [] (upd H1 acc (.lst []))) ∧ ∀ i m ys H, W i m ys H →
  (J.stop i H ∧ Q (.ref acc) H) ∨ (J.go i H ∧ ∃ N : List V → Hp → Prop, (∀ ys' H', N ys' H' → ∃ m', m' < m ∧ W (i + 1) m' ys' H') ∧ ∀ x H', J.yld i H x H' → g x (capσ caps σ) H' fun σ2 H2 => Wk (capσ caps σ) σ2 ∧ te σ2 H2 fun y H3 => H3 acc = some (.lst ys) ∧ ys.length < sizeLine ∧ N (ys ++ [y]) (upd H3 acc (.lst (ys ++ [y]))))

section
variable {X : Cx} {scope : Scope} {N' : List Str} {caps : List (Option Nat)} {elt iter tg : Expr} {pos : Pos} {wi : TI} {g : TG} {te : TE}

def CompR (caps : List (Option Nat)) (g : TG) (te : TE) (σ : St) (Q : VK) (J : It) (H1 : Hp) : Prop := ∀ acc, H1 acc = none → ∃ W : Nat → Nat → List V → Hp → Prop, (∃ m, W 0 m [] (upd H1 acc (.lst []))) ∧ ∀ i m ys H, W i m ys H →
  (J.stop i H ∧ Q (.ref acc) H) ∨ (J.go i H ∧ ∃ N : List V → Hp → Prop, (∀ ys' H', N ys' H' → ∃ m', m' < m ∧ W (i + 1) m' ys' H') ∧ ∀ x H', J.yld i H x H' → g x (capσ caps σ) H' fun σ2 H2 => Wk (capσ caps σ) σ2 ∧ te σ2 H2 fun y H3 => H3 acc = some (.lst ys) ∧ ys.length < sizeLine ∧ N (ys ++ [y]) (upd H3 acc (.lst (ys ++ [y]))))
theorem comp_core {pins : List (Addr × Obj)} {s : Shared} {σ : St} {H : Hp} {cl : List (Str × Addr)} {Q : VK} {E : Value → Shared → Prop} {RR : Value → Addr → Result → Shared → Prop} {it : Addr} {fp : List Addr} {tn : Nat → Heap → Prop} {J : It} (hc : X.calm = true) (S : BlkScope X.N X.env.scope scope N' caps)
    (hg : ∀ cl C s H ex pins, PG (blk X N' scope cl C s H ex pins) tg g) (he : ∀ cl C s H ex pins, PE (blk X N' scope cl C s H ex pins) elt te)
    (hcl1 : ∀ x c, cl.lookup x = some c → X.env.cells.lookup x = some c) (hcl2 : ∀ x ∈ scope.names, x.2 = .free → ∃ c, cl.lookup x.1 = some c)
    (I : Inv X pins σ H s) (T : Turn X.prog X.w X.K tg J fp it tn) (st : tn 0 s.heap) (f2 : ∀ b ∈ fp, FpOk X pins H b) (R : CompR caps g te σ Q J H)
    (hRR : ∀ acc C H' s' m, s.heap.objs.size ≤ C → s'.heap.Ns C m → Inv X pins σ H' s' → H' C = none → Q (.ref acc) H' → RR (.ref acc) C (.ok .next) s') :
    wpAny (model X.prog X.w) X.A (newList []) (fun acc s₃ => wpAny (model X.prog X.w) X.A (newFunctionEnv scope X.env.globals cl [] X.env.qual none .none (some X.env)) (fun cenv s₄ =>
      codeAny (model X.prog X.w) X.A (.compStart (.ListComp elt [⟨tg, iter, [], 0⟩] scope pos) 0 (.ref it) acc { cenv with scope := relabel scope X.env }) (RR acc cenv.locals) s₄) E s₃) E s := by
  refine wpAny_newObj_type (wpAny_newFunctionEnv S.nocell (by intro y hy; simp at hy) (fun h₁ hns₁ hsb₁ => ?_) S.kind)
  dsimp only at hns₁ hsb₁ ⊢
  generalize hP2 : s.heap.push { cls := .type "list", dict := none, data := .seq ([] : List Value).toArray } = P2 at hns₁ hsb₁ ⊢
  have hC : P2.objs.size = s.heap.objs.size + 1 := by rw [← hP2, Heap.size_push]
  have hDC : s.heap.objs.size ≠ P2.objs.size := by rw [hC]; exact Nat.ne_of_lt (Nat.lt_succ_self _)
  have hCle : s.heap.objs.size ≤ P2.objs.size := by rw [hC]; exact Nat.le_succ _
  have old : ∀ b o, s.heap.get? b = some o → h₁.get? b = some o := fun b o e => hsb₁.extBut b o (by rw [hC]; exact Nat.ne_of_lt (Nat.lt_succ_of_lt (Heap.lt_size e))) (Heap.get?_push_of_some _ (hP2 ▸ Heap.get?_push_of_some _ e))
  have hacc : h₁.get? s.heap.objs.size = some { cls := .type "list", data := .seq #[] } := hsb₁.extBut _ _ hDC (Heap.get?_push_of_some _ (hP2 ▸ Heap.get?_push_size _ rfl))
  have hex : ∀ b ∈ fp, b < s.heap.objs.size := fun b hb => by obtain ⟨o, e, _⟩ := T.obj 0 _ st b hb; exact Heap.lt_size e
  obtain ⟨W, ⟨m0, w0⟩, turn⟩ := R s.heap.objs.size (I.hok.fresh (Nat.le_refl _))
  have I3 : ∀ t', Inv (blk X N' scope cl P2.objs.size s H fp pins) [] (capσ caps σ) (upd H s.heap.objs.size (.lst [])) { s with heap := h₁, toks := t' } := fun t' => blk_inv (t' := t') I S hcl1 hcl2 hCle f2 hex hns₁ old hacc (Nat.le_refl _) hDC
  have stat : ∀ {H' : Hp}, (∀ b ∈ fp, H' b = none) → ∀ b ∈ fp, FpOk (blk X N' scope cl P2.objs.size s H fp pins) [] H' b := fun hn b hb => by
    obtain ⟨_, q1, q2, q3, q4, q5⟩ := f2 b hb
    refine ⟨hn b hb, Nat.ne_of_lt (Nat.lt_of_lt_of_le (hex b hb) hCle), fun z => ?_, .inl hb, fun x c e => q4 x c (hcl1 x c e), fun p hp => q5 p ?_⟩
    · rcases List.mem_cons.mp (I.stkSub b z) with z | z
      · exact q1 z
      · exact q2 z
    · have : p ∈ (X.pn ++ pins) ++ [] := hp
      simpa using this
  have loop : ∀ s₃ : Shared, s₃ = { s with heap := h₁, toks := s.toks + ([] : List (Str × Value)).length } →
      codeAny (model X.prog X.w) X.A (.compLoop (.ListComp elt [⟨tg, iter, [], 0⟩] scope pos) 0 (.ref it) (.ref s.heap.objs.size) (compEnvC scope cl P2.objs.size X.env)) (RR (.ref s.heap.objs.size) P2.objs.size) s₃ := by
    rintro s₃ rfl
    refine codeAny_compLoop_gen (fun n s' => ∃ i ys H', Inv (blk X N' scope cl P2.objs.size s H fp pins) [] (capσ caps σ) H' s' ∧ tn i s'.heap ∧ (∀ b ∈ fp, H' b = none) ∧ W i n ys H') ?_ m0
      ⟨0, [], _, I3 _, T.keep 0 _ _ st (fun b _ o e => old b o e), fun b hb => by rw [upd_ne (Nat.ne_of_lt (hex b hb))]; exact (f2 b hb).1, w0⟩
    rintro n s4 ⟨i, ys, H4, I4, st4, fr4, w4⟩
    rcases turn i n ys H4 w4 with ⟨stop, q⟩ | ⟨go, N, hN, step⟩
    · refine thn (T.done (blk X N' scope cl P2.objs.size s H fp pins) rfl rfl rfl hc i [] s4 _ H4 _ I4 (stat fr4) st4 stop) fun r s5 ⟨hr, I5⟩ => ?_
      subst hr
      obtain ⟨m, hm, _⟩ := id I5.loc
      exact hRR _ _ H4 s5 m hCle hm (blk_back I I5 f2) I5.free q
    · refine thn (T.item (blk X N' scope cl P2.objs.size s H fp pins) rfl rfl rfl hc i [] s4 _ H4 _ I4 (stat fr4) st4 go) fun r s5 ⟨u, hr, h5⟩ => ?_
      subst hr
      refine thn h5 fun _ s6 ⟨x, H6, I6, r6, y6, st6, fr6⟩ => ?_
      have I6' := I6.pinned (stat fr6) (T.obj _ _ st6)
      refine thn (hg cl _ s H fp pins _ s6 _ H6 x u _ I6' r6 (step x H6 y6)) fun _ s7 ⟨σ7, H7, I7, wk7, q7⟩ => ?_
      refine thn (he cl _ s H fp pins _ s7 σ7 H7 _ I7 q7) fun yv s8 ⟨y, H8, I8, r8, ha8, hsz8, w8⟩ => ?_
      refine thn (mt_append (X := blk X N' scope cl P2.objs.size s H fp pins) _ s8 σ7 H8 (.ref s.heap.objs.size) [y] (.ref s.heap.objs.size) [yv] (fun _ H9 => H9 = upd H8 s.heap.objs.size (.lst (ys ++ [y]))) I8 rfl (.cons r8 .nil) ⟨_, ys, y, rfl, rfl, ha8, hsz8, rfl⟩) fun _ s9 ⟨_, H9, I9, _, e9⟩ => ?_
      subst e9
      obtain ⟨m', hm', w8⟩ := hN _ _ w8
      refine ⟨m', hm', i + 1, ys ++ [y], _, I9.unpinned.weak wk7.1 wk7.2, T.keep _ _ _ st6 fun b hb o e => (I9.pin (b, o) (List.mem_append_right _ (List.mem_append_right _ (mem_pinsAt hb e)))).1, fun b hb => ?_, w8⟩
      obtain ⟨o, e, d⟩ := T.obj _ _ st6 b hb
      exact (I9.pin (b, o) (List.mem_append_right _ (List.mem_append_right _ (mem_pinsAt hb e)))).2.1
  exact codeAny_compStart_list (loop _ rfl) (T.self _ 0 _ _ _ (T.keep 0 _ _ st (fun b _ o e => old b o e)) (loop _ rfl))

theorem clos_of {pins : List (Addr × Obj)} {s : Shared} {σ : St} {H : Hp} (I : Inv X pins σ H s) (S : BlkScope X.N X.env.scope scope N' caps) :
    ∃ cl, closureFor scope X.env = pure cl ∧ (∀ x c, cl.lookup x = some c → X.env.cells.lookup x = some c) ∧ ∀ x ∈ scope.names, x.2 = .free → ∃ c, cl.lookup x.1 = some c :=
  closure_ok fun x hx hf => I.ok.has x.1 (S.frees x hx hf)

theorem pe_comp {N : List Str} {sc0 : Scope} (S : BlkScope N sc0 scope N' caps) (hc : X.calm = true) (hi : PI X tg iter wi)
    (hg : ∀ cl C s H ex pins, PG (blk X N' scope cl C s H ex pins) tg g) (he : ∀ cl C s H ex pins, PE (blk X N' scope cl C s H ex pins) elt te)
    (hs : ∀ x, foldedSetIterable iter X.env x = pure x := by intro _; rfl) (hN0 : X.N = N := by rfl) (h00 : X.env.scope = sc0 := by rfl) : PE X (.ListComp elt [⟨tg, iter, [], 0⟩] scope pos) (tComp wi g te caps) := by
  subst hN0 h00
  intro pins s σ H Q I h
  obtain ⟨cl, hclos, hcl1, hcl2⟩ := clos_of I S
  rw [eval_ListComp]
  refine wpAny_comprehension_free (use := none) rfl hs hclos S.kind S.names (thn (hi pins s σ H _ I h) fun xv s1 h1 => thn h1 fun itv s2 h2 => ?_)
  obtain ⟨it, fp, tn, J, H2, e, I2, T, st2, f2, R⟩ := h2
  subst e
  refine comp_core (RR := fun acc C => compPost (model X.prog X.w) X.A X.xe none (EP X pins σ Q) acc C) hc S hg he hcl1 hcl2 I2 T st2 f2 R ?_
  intro acc C H' s' m hC hm J' hn q
  exact ⟨m, hm, fun h' hs' => ⟨.ref _, H', I2.letC hC J' hn hs', rfl, q⟩⟩

/-- name = [.. for ..], the store exchanged with the letting go of the block's names -/
theorem ps_setC {i : Nat} {x : Str} {pos' spos : Pos} {N : List Str} {sc0 : Scope} (S : BlkScope N sc0 scope N' caps) (hc : X.calm = true) (hN : X.N.Nodup) (hi' : X.N[i]? = some x) (hx : Loc X.env.scope x) (hi : PI X tg iter wi)
    (hg : ∀ cl C s H ex pins, PG (blk X N' scope cl C s H ex pins) tg g) (he : ∀ cl C s H ex pins, PE (blk X N' scope cl C s H ex pins) elt te)
    (hsw : swapsWith (.ListComp elt [⟨tg, iter, [], 0⟩] scope pos) (some (.Name x pos')) spos.line X.env = pure true := by rfl)
    (hf : X.fn x = true ∨ X.env.scope.names.lookup x = some .local := by first | exact .inl rfl | exact .inr rfl | assumption)
    (hs : ∀ x, foldedSetIterable iter X.env x = pure x := by intro _; rfl) (hN0 : X.N = N := by rfl) (h00 : X.env.scope = sc0 := by rfl) : PS X (.Assign [.Name x pos'] (.ListComp elt [⟨tg, iter, [], 0⟩] scope pos) spos) (tAsg (tComp wi g te caps) (gName i)) := by
  subst hN0 h00
  intro pins s σ H D I h
  obtain ⟨cl, hclos, hcl1, hcl2⟩ := clos_of I S
  rw [exec_Assign_Name_used _ _ _ _ hsw]
  refine wpAny_bind (wpAny_standAt (wpAny_bind ?_))
  show wpAny _ X.A (do let _ ← comprehension (.ListComp elt [⟨tg, iter, [], 0⟩] scope pos) scope X.env _ (newList []) false (eval iter X.env) (some (assign (.Name x pos') X.env))) _ _ s
  refine wpAny_bind (wpAny_mono (wpAny_comprehension_free (use := some (assign (.Name x pos') X.env)) (Q := fun _ s' => SP X pins D .next s') rfl hs hclos S.kind S.names
    (thn (hi pins s σ H _ I h) fun xv s1 h1 => thn h1 fun itv s2 h2 => ?_)) (fun _ s' hq => wpAny_pure (wpAny_pure hq)) fun _ _ e => e)
  obtain ⟨it, fp, tn, J, H2, e, I2, T, st2, f2, R⟩ := h2
  subst e
  refine comp_core (Q := fun x H1 => gName i x σ H1 D.nx) (RR := fun acc C => compPost (model X.prog X.w) X.A X.xe (some (assign (.Name x pos') X.env)) (fun _ s' => SP X pins D .next s') acc C) hc S hg he hcl1 hcl2 I2 T st2 f2 R ?_
  intro acc C H' s' m hC hm J' hn q
  obtain ⟨o, es, ep, ho, hd, hr⟩ := id hm
  have hCL : C ≠ X.env.locals := Nat.ne_of_gt (Nat.lt_of_lt_of_le I2.lt hC)
  have JP : Inv X (pins ++ [(C, o)]) σ H' s' := J'.pins_of fun p hp => by
    rcases List.mem_append.mp hp with hp | hp
    · exact J'.pin p (List.mem_append_right _ hp)
    · have e := List.mem_singleton.mp hp
      subst e
      exact ⟨ho, hn, hCL, I2.nofs hC, fun v z => by have z' : o.data = .cell v := z; rw [hd] at z'; cases z'⟩
  show wpAny _ X.A (assign (.Name x pos') X.env (.ref acc)) _ _ s'
  refine thn (pg_name hN hi' hx hf (pins ++ [(C, o)]) s' σ H' (.ref acc) (.ref acc) D.nx JP rfl q) fun _ s'' ⟨σ'', H'', J'', q''⟩ => ?_
  have hp := J''.pin (C, o) (List.mem_append_right _ (List.mem_append_right _ (List.mem_singleton.mpr rfl)))
  exact ⟨m, ⟨o, es, ep, hp.1, hd, hr⟩, fun h' hs' => ⟨σ'', H'', I2.letC hC J''.unpinned hp.2.1 hs', q''⟩⟩
end

/-! ### what a comprehension's reading wants -/
theorem comp_list {K : PySem.W.Frag} {a : Addr} {xs : List V} {g : TG} {te : TE} {caps : List (Option Nat)} {σ : St} {H : Hp} {Q : VK} (Pv : Addr → Nat → List V → Hp → Prop) (h0 : ∀ acc, H acc = none → Pv acc 0 [] (upd H acc (.lst [])))
    (hl : ∀ acc i ys H', H acc = none → i ≤ xs.length → Pv acc i ys H' → SqL K H' a xs)
    (hs : ∀ acc i x ys H', H acc = none → xs[i]? = some x → Pv acc i ys H' → g x (capσ caps σ) H' fun σ2 H2 => Wk (capσ caps σ) σ2 ∧ te σ2 H2 fun y H3 => H3 acc = some (.lst ys) ∧ ys.length < sizeLine ∧ Pv acc (i + 1) (ys ++ [y]) (upd H3 acc (.lst (ys ++ [y]))))
    (hd : ∀ acc ys H', H acc = none → Pv acc xs.length ys H' → Q (.ref acc) H') : CompR caps g te σ Q (Itl K a) H := by
  intro acc hacc
  refine ⟨fun i m ys H => m = xs.length - i ∧ i ≤ xs.length ∧ Pv acc i ys H, ⟨xs.length, by simp, Nat.zero_le _, h0 acc hacc⟩, ?_⟩
  rintro i m ys H' ⟨rfl, hi, p⟩
  have q := hl acc i ys H' hacc hi p
  by_cases hlt : i < xs.length
  · refine .inr ⟨⟨xs, xs[i], q, by simp [hlt]⟩, Pv acc (i + 1), fun ys' H' p' => ⟨xs.length - (i + 1), by omega, rfl, hlt, p'⟩, fun x H'' y => ?_⟩
    obtain ⟨e, y⟩ := y
    subst e
    exact hs acc i x ys _ hacc (y xs q) p
  · have e : i = xs.length := by omega
    subst e
    exact .inl ⟨⟨xs, q, Nat.le_refl _⟩, hd acc ys H' hacc p⟩
theorem comp_range {lo : Int} {n : Nat} {g : TG} {te : TE} {caps : List (Option Nat)} {σ : St} {H : Hp} {Q : VK} (Pv : Addr → Nat → List V → Hp → Prop) (h0 : ∀ acc, H acc = none → Pv acc 0 [] (upd H acc (.lst [])))
    (hs : ∀ acc i ys H', H acc = none → i < n → Pv acc i ys H' → g (.int (lo + i)) (capσ caps σ) H' fun σ2 H2 => Wk (capσ caps σ) σ2 ∧ te σ2 H2 fun y H3 => H3 acc = some (.lst ys) ∧ ys.length < sizeLine ∧ Pv acc (i + 1) (ys ++ [y]) (upd H3 acc (.lst (ys ++ [y]))))
    (hd : ∀ acc ys H', H acc = none → Pv acc n ys H' → Q (.ref acc) H') : CompR caps g te σ Q (Itr lo n) H := by
  intro acc hacc
  refine ⟨fun i m ys H => m = n - i ∧ i ≤ n ∧ Pv acc i ys H, ⟨n, by simp, Nat.zero_le _, h0 acc hacc⟩, ?_⟩
  rintro i m ys H' ⟨rfl, hi, p⟩
  by_cases hlt : i < n
  · refine .inr ⟨hlt, Pv acc (i + 1), fun ys' H' p' => ⟨n - (i + 1), by omega, rfl, hlt, p'⟩, fun x H'' y => ?_⟩
    obtain ⟨e, y⟩ := y
    subst e y
    exact hs acc i ys _ hacc hlt p
  · have e : i = n := by omega
    subst e
    exact .inl ⟨Nat.le_refl _, hd acc ys H' hacc p⟩

/-! ### isinstance, == of lists -/
def cvV : V → Option Value
  | .ty n => some (.type n)
  | .ref a => some (.ref a)
  | _ => none
section
variable {X : Cx}
theorem call_isinst : CallR X (.builtin "isinstance") (fun xs H Q => ∃ x c t cv b, xs = [x, c] ∧ TyOf X.K H x t ∧ cvV c = some cv ∧ PySem.W.kitOne X.K t cv = some b ∧ Q (.bl b) H) := by
  intro pins s σ H xs us Q I r h
  obtain ⟨x, c, t, cv, b, rfl, ty, hc, hk, q⟩ := h
  obtain ⟨u, w', rfl, r1, r2⟩ := vals2 r
  have e : w' = cv := by
    cases c with
    | ty n => have h1 : w' = Value.type n := r2; have h2 : some (Value.type n) = some cv := hc; cases h2; exact h1
    | ref a => have h1 : w' = Value.ref a := r2; have h2 : some (Value.ref a) = some cv := hc; cases h2; exact h1
    | non => cases hc
    | bl _ => cases hc
    | int _ => cases hc
    | str _ => cases hc
    | byt _ => cases hc
    | flt _ => cases hc
  subst e
  exact isinst_ok I r1 ty hk fun tk => ⟨.bl b, H, I.tok tk, rfl, q⟩
/-- lists of ints -/
theorem op_eqI (hu : X.A.units + 64 < cLine) : OpR X (compareOp .Eq) (fun x y H Q => ∃ (a b : Addr) (ns ms : List Int), x = .ref a ∧ y = .ref b ∧ SqL X.K H a (ns.map V.int) ∧ SqL X.K H b (ms.map V.int) ∧ Q (.bl (decide (ns = ms))) H) := by
  intro pins s σ H x y v u Q I rx ry h
  obtain ⟨a, b, ns, ms, rfl, rfl, ha, hb, q⟩ := h
  cases rx; cases ry
  obtain ⟨its, rv, p, _⟩ := I.list ha
  obtain ⟨its', rv', p', _⟩ := I.list hb
  exact PySem.W.ke_eq_ints p.isList p'.isList (intsAre_of rv) (intsAre_of rv') hu ⟨.bl _, H, I, rfl, q⟩
end
/-! a value's data, as == reads it -/
mutual
inductive Dt (K : PySem.W.Frag) (H : Hp) : V → PyData → Prop where
  | non : Dt K H .non .none
  | bl (b : Bool) : Dt K H (.bl b) (.bool b)
  | int (i : Int) : Dt K H (.int i) (.int i)
  | str (x : Str) : Dt K H (.str x) (.str x)
  | lst {a : Addr} {xs : List V} {ds : List PyData} : SqL K H a xs → Dts K H xs ds → Dt K H (.ref a) (.list ds)
  | tup {a : Addr} {xs : List V} {ds : List PyData} : SqT K H a xs → Dts K H xs ds → Dt K H (.ref a) (.tuple ds)
inductive Dts (K : PySem.W.Frag) (H : Hp) : List V → List PyData → Prop where
  | nil : Dts K H [] []
  | cons {x : V} {xs : List V} {d : PyData} {ds : List PyData} : Dt K H x d → Dts K H xs ds → Dts K H (x :: xs) (d :: ds)
end
section
variable {X : Cx} {pins : List (Addr × Obj)} {σ : St} {H : Hp} {s : Shared}
mutual
theorem Dt.reads (I : Inv X pins σ H s) : ∀ {x : V} {d : PyData} {u : Value}, Dt X.K H x d → RelV x u → ∃ as, Reads s.heap u d as
  | _, _, _, .non, r => by cases r; exact ⟨_, .none⟩
  | _, _, _, .bl b, r => by cases r; exact ⟨_, .bool b⟩
  | _, _, _, .int i, r => by obtain ⟨t, rfl⟩ := r; exact ⟨_, .int i t⟩
  | _, _, _, .str x, r => by obtain ⟨t, rfl⟩ := r; exact ⟨_, .str x t⟩
  | _, _, _, .lst h hs, r => by
    cases r
    obtain ⟨its, rv, p, _⟩ := I.list h
    obtain ⟨as, q⟩ := Dts.reads I hs rv
    obtain ⟨o, ho, hc, n, hd⟩ := p.isList
    exact ⟨_, .list ho hc hd (by simpa using q)⟩
  | _, _, _, .tup h hs, r => by
    cases r
    obtain ⟨its, rv, p, _⟩ := I.tuple h
    obtain ⟨as, q⟩ := Dts.reads I hs rv
    obtain ⟨o, ho, hc, n, hd⟩ := p
    exact ⟨_, .tuple ho hc hd (by simpa using q)⟩
theorem Dts.reads (I : Inv X pins σ H s) : ∀ {xs : List V} {ds : List PyData} {us : List Value}, Dts X.K H xs ds → Vals xs us → ∃ as, ReadsAll s.heap us ds as
  | _, _, _, .nil, r => by cases r; exact ⟨_, .nil⟩
  | _, _, _, .cons h hs, r => by
    cases r with
    | cons r rr =>
      obtain ⟨as, q⟩ := Dt.reads I h r
      obtain ⟨bs, q'⟩ := Dts.reads I hs rr
      exact ⟨_, .cons q q'⟩
end
end
section
variable {X : Cx}
theorem op_eqD (hu : X.A.units + 64 < cLine) : OpR X (compareOp .Eq) (fun x y H Q => ∃ d e, Dt X.K H x d ∧ Dt X.K H y e ∧ SeqAt.shaped d = true ∧ SeqAt.shaped e = true ∧ Q (.bl (PyData.eqv d e)) H) := by
  intro pins s σ H x y v u Q I rx ry h
  obtain ⟨d, e, hd, he, sd, se, q⟩ := h
  obtain ⟨as, r1⟩ := hd.reads I rx
  obtain ⟨bs, r2⟩ := he.reads I ry
  exact eq_dataH r1 r2 sd se hu ⟨.bl _, H, I, rfl, q⟩
end
end L2
/-! ## Reading the terms, step by step -/
namespace L2
open PySem PySem.Spec PyProof.Rows
section
variable {t u : TS} {te ta tb tc : TE} {tt uu : TT} {tar : TA} {g : TG} {D : Ends} {σ : St} {H : Hp} {Q : VK} {QB : Bool → Hp → Prop} {QL : List V → Hp → Prop} {QS : St → Hp → Prop} {v x y : V} {i j : Int} {n : Nat} {K : PySem.W.Frag}
theorem r_seq (h : t { D with nx := u D } σ H) : tSeq t u D σ H := h
theorem r_next (h : D.nx σ H) : tNext D σ H := h
theorem r_nx {f b c : St → Hp → Prop} {r : VK} (h : f σ H) : Ends.nx ⟨f, r, b, c⟩ σ H := h
theorem r_rt {f b c : St → Hp → Prop} {r : VK} (h : r v H) : Ends.rt ⟨f, r, b, c⟩ v H := h
theorem r_asg (h : te σ H fun x H1 => g x σ H1 D.nx) : tAsg te g D σ H := h
theorem r_gname (h : QS (σ.set n (some v)) H) : gName n v σ H QS := h
theorem r_drop (h : te σ H fun _ H1 => D.nx σ H1) : tDrop te D σ H := h
theorem r_ret (h : te σ H D.rt) : tRet te D σ H := h
theorem r_ifs (h : tt σ H fun b H1 => if b = true then t D σ H1 else u D σ H1) : tIfS tt t u D σ H := h
theorem r_var (e : σ[n]? = some (some v)) (h : Q v H) : tVar n σ H Q := ⟨v, e, h⟩
theorem r_C (h : Q v H) : tC v σ H Q := h
theorem r_op {r : R2} (h : ta σ H fun x H1 => tb σ H1 fun y H2 => r x y H2 Q) : tOp r ta tb σ H Q := h
theorem r_test (h : te σ H fun x H' => ∃ k, x = .bl k ∧ QB k H') : tTest te σ H QB := h
theorem r_tB (h : te σ H fun x H' => ∃ k, x = .bl k ∧ QB k H') : tB te σ H QB := h
theorem r_bl {k : Bool} {Q : Bool → Prop} (h : Q k) : ∃ k', V.bl k = .bl k' ∧ Q k' := ⟨k, rfl, h⟩
theorem r_or (h : tt σ H fun c H1 => if c = true then QB true H1 else uu σ H1 QB) : tOr tt uu σ H QB := h
theorem r_not (h : tt σ H fun c H1 => QB (!c) H1) : tNot tt σ H QB := h
theorem r_andV (h : ta σ H fun x H1 => ∃ c, x = .bl c ∧ if c = true then tb σ H1 Q else Q (.bl false) H1) : tAndV ta tb σ H Q := h
theorem r_notV (h : ta σ H fun x H1 => ∃ c, x = .bl c ∧ Q (.bl (!c)) H1) : tNotV ta σ H Q := h
theorem r_chain {r r' : R2} (h : ta σ H fun x H1 => tb σ H1 fun y H2 => r x y H2 fun z H3 => ∃ k, z = .bl k ∧ (if k = true then tc σ H3 fun w' H4 => r' y w' H4 Q else Q (.bl false) H3)) : tChain r r' ta tb tc σ H Q := h
theorem r_call {sp : Sp} {dvs : List V} {E : XK} (h : tar σ H fun vs H1 => sp (vs ++ dvs) H1 Q E) : tCall sp dvs E tar σ H Q := h
theorem r_cb {r : List V → Hp → VK → Prop} (h : tar σ H fun vs H1 => r vs H1 Q) : tCB r tar σ H Q := h
theorem r_cons (h : ta σ H fun x H1 => tar σ H1 fun xs H2 => QL (x :: xs) H2) : tCons ta tar σ H QL := h
theorem r_nil (h : QL [] H) : tNil σ H QL := h
theorem r_lst (h : tar σ H fun xs H1 => xs.length ≤ sizeLine ∧ ∀ p, H1 p = none → Q (.ref p) (upd H1 p (.lst xs))) : tLst tar σ H Q := h
theorem r_tup (h : tar σ H fun xs H1 => xs.length ≤ sizeLine ∧ ∀ p, H1 p = none → Q (.ref p) (upd H1 p (.tup xs))) : tTup tar σ H Q := h
theorem r_I0 {f : Int → Int → V} (h : Q (f i j) H) : rI0 f (.int i) (.int j) H Q := ⟨i, j, rfl, rfl, h⟩
theorem r_I {C : Int → Int → Prop} {f : Int → Int → V} (hc : C i j) (h : Q (f i j) H) : rI C f (.int i) (.int j) H Q := ⟨i, j, rfl, rfl, hc, h⟩
theorem r_eq (hs : scal x y = true) (h : Q (.bl (decide (x = y))) H) : rEq x y H Q := ⟨hs, h⟩
theorem r_ne (hs : scal x y = true) (h : Q (.bl (!decide (x = y))) H) : rNe x y H Q := ⟨hs, h⟩
theorem r_ixL {p : Addr} {xs : List V} (hs : SqL K H p xs) (ha : atI xs i = some v) (h : Q v H) : rIxL K (.ref p) (.int i) H Q := ⟨p, xs, i, v, rfl, rfl, hs, ha, h⟩
theorem r_bm {T : String} {r : V → List V → Hp → VK → Prop} {to : TE} (h : to σ H fun x H1 => tyV K T x H1 ∧ tar σ H1 fun xs H2 => r x xs H2 Q) : tBM K T r to tar σ H Q := h
theorem r_ite {A B : Prop} {c : Bool} (h1 : c = true → A) (h2 : c = false → B) : if c = true then A else B := by
  cases c with
  | true => exact h1 rfl
  | false => exact h2 rfl
theorem r_iteP {A B : Prop} {c : Bool} (hc : c = true) (h1 : A) : if c = true then A else B := by rw [if_pos hc]; exact h1
theorem r_iteN {A B : Prop} {c : Bool} (hc : c = false) (h1 : B) : if c = true then A else B := by rw [if_neg (by rw [hc]; decide)]; exact h1
theorem Same.upd_new {H : Hp} {p : Addr} {o : HO} (h : H p = none) : Same H (upd H p o) := fun b u e => by rw [upd_ne (ne_of_none e h)]; exact e
theorem sqL_same {K : PySem.W.Frag} {H H' : Hp} {a : Addr} {xs : List V} (e : Same H H') (h : SqL K H a xs) : SqL K H' a xs := e.seq h
theorem atI_get' {α : Type} {xs : List α} {i : Int} {v : α} (h0 : 0 ≤ i) (h : xs[i.toNat]? = some v) : atI xs i = some v := by
  have := atI_nat (xs := xs) (j := i.toNat) h
  rwa [Int.toNat_of_nonneg h0] at this
end
end L2
namespace L2
open PySem PySem.Spec PyProof.Rows
section
variable {wi : TI} {g : TG} {tb : TS} {te tl : TE} {ta : TA} {D : Ends} {σ : St} {H : Hp} {Q : VK} {R : It → Hp → Prop} {caps : List (Option Nat)} {K : PySem.W.Frag}
theorem r_for (h : wi σ H fun J H1 => ∃ W : Nat → Nat → St → Hp → Prop, (∃ m, W 0 m σ H1) ∧ ∀ i m σ H, W i m σ H →
    (J.stop i H ∧ D.nx σ H) ∨ (J.go i H ∧ ∃ N : St → Hp → Prop, (∀ σ' H', N σ' H' → ∃ m', m' < m ∧ W (i + 1) m' σ' H') ∧ ∀ x H', J.yld i H x H' → g x σ H' fun σ2 H2 => tb { D with nx := N, ct := N, bk := D.nx } σ2 H2)) : tFor wi g tb D σ H := h
theorem r_rng1 (h : ta σ H fun vs H1 => ∃ j : Int, vs = [.int j] ∧ -(2 ^ 62) ≤ j ∧ j < 2 ^ 62 ∧ R (Itr 0 j.toNat) H1) : iRng1 ta σ H R := h
theorem r_ilist (h : tl σ H fun x H1 => ∃ a, x = .ref a ∧ (∃ xs, SqL K H1 a xs) ∧ R (Itl K a) H1) : iList K tl σ H R := h
theorem r_ienum (h : ta σ H fun vs H1 => ∃ a, vs = [.ref a] ∧ (∃ xs, SqL K H1 a xs) ∧ R (Ite K a) H1) : iEnum K ta σ H R := h
theorem r_comp (h : wi σ H fun J H1 => CompR caps g te σ Q J H1) : tComp wi g te caps σ H Q := h
theorem r_make {C : Addr} {sp : Sp} {dvs : List V} {E : XK} (h : ta σ H fun vs H1 => ∀ x dx, H1 x = none → H1 dx = none → dx ≠ x →
  sp (.ref x :: (vs ++ dvs)) (upd (upd H1 dx (.own x)) x (.ins C dx [])) (fun v H2 => v = .non ∧ Q (.ref x) H2) E) : tMake C sp dvs E ta σ H Q := h
theorem r_sfld {tv to : TE} {f : Str} (h : tv σ H fun y H1 => to σ H1 fun x H2 => ∃ a C dx fs, x = .ref a ∧ H2 a = some (.ins C dx fs) ∧ Cls K C ∧ NoAttr K C f ∧ fs.length < 1000 ∧
  D.nx σ (upd H2 a (.ins C dx (putF f y fs)))) : sFld K to tv f D σ H := h
end
end L2
/-! ### the same rules, the written part K named (a comprehension's block has its own context) -/
namespace L2
open PySem PySem.Spec PyProof.Rows
section
variable {X : Cx} (K : PySem.W.Frag)
theorem call_len_seqK (hK : X.K = K := by rfl) : CallR X (.builtin "len") (fun xs H Q => ∃ p ys, xs = [.ref p] ∧ (SqL K H p ys ∨ SqT K H p ys) ∧ Q (.int ys.length) H) := by subst hK; exact call_len_seq
theorem call_list_ofK (hK : X.K = K := by rfl) : CallR X (.type "list") (fun xs H Q => ∃ p ys, xs = [.ref p] ∧ (SqL K H p ys ∨ SqT K H p ys) ∧ ∀ l, H l = none → Q (.ref l) (upd H l (.lst ys))) := by subst hK; exact call_list_of
theorem call_isinstK (hK : X.K = K := by rfl) : CallR X (.builtin "isinstance") (fun xs H Q => ∃ x c t cv b, xs = [x, c] ∧ TyOf K H x t ∧ cvV c = some cv ∧ PySem.W.kitOne K t cv = some b ∧ Q (.bl b) H) := by subst hK; exact call_isinst
theorem ix_listK (hK : X.K = K := by rfl) : IxR X (rIxL K) := by subst hK; exact ix_list
theorem ix_tupK (hK : X.K = K := by rfl) : IxR X (rIxT K) := by subst hK; exact ix_tup
theorem pe_fldK {e : Expr} {f : Str} {pos : Pos} {ta : TE} (he : PE X e ta) (hb : attributeBase e f X.env (eval e X.env) = eval e X.env) (hK : X.K = K := by rfl) : PE X (.Attribute e f pos) (tFld K ta f) := by subst hK; exact pe_fld he hb
theorem ps_fldK {o value : Expr} {f : Str} {pos pos' : Pos} {ta tv : TE} (ha : PE X o ta) (hv : PE X value tv) (hs : swapsWith value (some (.Attribute o f pos')) pos.line X.env = pure false) (hK : X.K = K := by rfl) : PS X (.Assign [.Attribute o f pos'] value pos) (sFld K ta tv f) := by subst hK; exact ps_fld ha hv hs
theorem pe_bmK {o e : Expr} {es : List Expr} {to : TE} {t : TA} {name : Str} {apos cpos : Pos} {T id : String} {r : V → List V → Hp → VK → Prop} (pa : PlainAttrs T) (slot : Slot T name id) (hty : typeOf (.builtin id) = pure (.type "method_descriptor")) (hm : MtR X id r) (ho : PE X o to) (ha : PA X (e :: es) t)
    (hbase : attributeBase o name X.env (eval o X.env) = eval o X.env := by rfl) (hfew : ((backTo cpos (starEach (e :: es) X.env)).all (fun x => !x.1) && (backToKw cpos (keywordEach [] X.env)).all (fun x => x.1.isSome)
      && decide ((e :: es).length + ([] : List Keyword).length + (if ([] : List Keyword).isEmpty then 0 else 1) < 30)) = true := by rfl)
    (hline : (apos.endLine == cpos.line) = true := by rfl) (hs : starEach (e :: es) X.env = (false, eval e X.env) :: starEach es X.env := by rfl) (hplain : (backTo cpos (starEach es X.env)).any (·.1) = false := by rfl) (hK : X.K = K := by rfl) :
    PE X (.Call (.Attribute o name apos) (e :: es) [] cpos) (tBM K T r to t) := by subst hK; exact pe_bm pa slot hty hm ho ha hbase hfew hline hs hplain
theorem pi_listK {tg l : Expr} {tl : TE} (hl : PE X l tl) (hK : X.K = K := by rfl) : PI X tg l (iList K tl) := by subst hK; exact pi_list hl
theorem pi_enumK {es : List Expr} {kk : Nat} {p0 : Pos} {l : Expr} {ta : TA} {p pos : Pos} (hg : Gl X "enumerate") (hm : X.mg "enumerate" = none) (ha : PA X [l] ta) (hs : starEach [l] X.env = [(false, eval l X.env)] := by rfl) (hK : X.K = K := by rfl) : PI X (.Tuple es kk p0) (.Call (.Name "enumerate" p) [l] [] pos) (iEnum K ta) := by subst hK; exact pi_enum hg hm ha hs
theorem pg_tupK {pos : Pos} {es : List Expr} {k : Nat} {t : TGs} {n : Nat} (hc : X.calm = true) (h : PGs X es t) (hn : (assignEach es X.env).length = n := by rfl) (hst : (assignEach es X.env).findIdx? (·.1) = none := by rfl) (hK : X.K = K := by rfl) : PG X (.Tuple es k pos) (gTup K n t) := by subst hK; exact pg_tup hc h hn hst
theorem op_eqIK (hu : X.A.units + 64 < cLine) (hK : X.K = K := by rfl) : OpR X (compareOp .Eq) (fun x y H Q => ∃ (a b : Addr) (ns ms : List Int), x = .ref a ∧ y = .ref b ∧ SqL K H a (ns.map V.int) ∧ SqL K H b (ms.map V.int) ∧ Q (.bl (decide (ns = ms))) H) := by subst hK; exact op_eqI hu
theorem op_eqDK (hu : X.A.units + 64 < cLine) (hK : X.K = K := by rfl) : OpR X (compareOp .Eq) (fun x y H Q => ∃ d e, Dt K H x d ∧ Dt K H y e ∧ SeqAt.shaped d = true ∧ SeqAt.shaped e = true ∧ Q (.bl (PyData.eqv d e)) H) := by subst hK; exact op_eqD hu
end
end L2
namespace L2
open PySem PySem.Spec PyProof.Rows
/-- two ways meet: what holds of both -/
def tJoin (t : TS) : TS := fun D σ H => ∃ P : St → Hp → Prop, t { D with nx := P } σ H ∧ ∀ σ' H', P σ' H' → D.nx σ' H'
theorem ps_join {X : Cx} {st : Stmt} {t : TS} (h : PS X st t) : PS X st (tJoin t) := by
  intro pins s σ H D I hw
  obtain ⟨P, h1, h2⟩ := hw
  refine thn (h pins s σ H _ I h1) fun f s' q => ?_
  cases f with
  | next => obtain ⟨σ', H', I', q⟩ := q; exact ⟨σ', H', I', h2 σ' H' q⟩
  | brk => exact q
  | cont => exact q
  | ret v => exact q
theorem r_join {t : TS} {D : Ends} {σ : St} {H : Hp} (P : St → Hp → Prop) (h1 : t { D with nx := P } σ H) (h2 : ∀ σ' H', P σ' H' → D.nx σ' H') : tJoin t D σ H := ⟨P, h1, h2⟩
end L2
/-! ## The mirror: houses as plain data -/
namespace My
open PySem L2
def cellv (ns : List Int) (k : Int) : Int := if k < ns.length then ns.getD k.toNat 0 else 0
def stir1 (c k : Int) : Int := (c % 2147483647 + 977 * k + 1) * 48271 % 2147483647
def stir2 (s k : Int) : Int := (s + 40692 * (k + 3)) * 69621 % 2147483629
def draw (c k b : Int) : Int := stir2 (stir1 c k) k / 8 % b
theorem draw_nn (c k : Int) {b : Int} (h : 0 < b) : 0 ≤ draw c k b := Int.emod_nonneg _ (by omega)
theorem draw_lt (c k : Int) {b : Int} (h : 0 < b) : draw c k b < b := Int.emod_lt_of_pos _ h
def rowBy (c : Int) (d r : Int) (k : Nat) : List Int := (List.range d.toNat).map fun (j : Nat) => draw c (7 * (k : Int) + (j : Int)) r
def waysBy (c d r : Int) : List (List Int) := (List.range r.toNat).map (rowBy c d r)
def lampsBy (c r : Int) : List Bool := (List.range r.toNat).map fun (k : Nat) => decide (draw c (k : Int) 2 = 1)
structure Ways (d : Int) (rss : List (List Int)) : Prop where
  row : ∀ row ∈ rss, (row.length : Int) = d ∧ ∀ x ∈ row, 0 ≤ x ∧ x < rss.length
structure Valid (d : Int) (rss : List (List Int)) (ls : List Bool) : Prop extends Ways d rss where
  d1 : 1 ≤ d
  d6 : d ≤ 6
  r1 : 1 ≤ rss.length
  r400 : rss.length ≤ 400
  ll : ls.length = rss.length
theorem waysBy_len (c d r : Int) : (waysBy c d r).length = r.toNat := by simp [waysBy]
theorem waysBy_ok (c : Int) {d r : Int} (hd : 0 ≤ d) (hr : 0 < r) : Ways d (waysBy c d r) := by
  refine ⟨fun row hrow => ?_⟩
  unfold waysBy at hrow
  obtain ⟨k, hk, rfl⟩ := List.mem_map.mp hrow
  refine ⟨?_, fun x hx => ?_⟩
  · simp [rowBy]; omega
  · unfold rowBy at hx
    obtain ⟨j, hj, rfl⟩ := List.mem_map.mp hx
    have h1 := draw_nn c (7 * (k : Int) + (j : Int)) hr
    have h2 := draw_lt c (7 * (k : Int) + (j : Int)) hr
    rw [waysBy_len]
    exact ⟨h1, by omega⟩
theorem lampsBy_len (c r : Int) : (lampsBy c r).length = r.toNat := by simp [lampsBy]
theorem map_range_snoc {α : Type} (f : Nat → α) (i : Nat) : (List.range (i + 1)).map f = (List.range i).map f ++ [f i] := by
  rw [List.range_succ, List.map_append]; rfl
end My
/-! ## Exceptions of the text's own classes: raised, passed on, caught -/
namespace L2
open PySem PySem.Spec PyProof.Rows

theorem ObjOk.ex {P : Program} {w : World} {H : Hp} {h : Heap} {a : Addr} {o : HO} (x : ObjOk P w H h a o) : ∃ ob, h.get? a = some ob := by
  cases o with
  | lst xs => obtain ⟨_, _, _, _, e⟩ := x; exact ⟨_, e⟩
  | tup xs => obtain ⟨_, _, _, ob, e, _⟩ := x; exact ⟨_, e⟩
  | dK kvs => obtain ⟨_, _, _, _, o, _, _, e, _⟩ := x; exact ⟨_, e⟩
  | dT kvs => obtain ⟨_, _, _, _, o, _, _, e, _⟩ := x; exact ⟨_, e⟩
  | set S n => obtain ⟨o, _, _, _, e, _⟩ := x; exact ⟨_, e⟩
  | ins C dx fs => obtain ⟨_, _, _, e, _⟩ := x; exact ⟨_, e⟩
  | own y => exact x
  | xd fs => obtain ⟨_, ⟨_, _, _, e, _⟩, _⟩ := x; exact ⟨_, e⟩
  | rng lo hi => obtain ⟨_, _, _, e⟩ := x; exact ⟨_, e⟩
  | frz ob u => obtain ⟨e, _⟩ := x; exact ⟨_, e⟩
  | tbl ps => exact ⟨_, x⟩
  | met f y => exact ⟨_, x⟩
  | ext φ => exact x.2.1

/-- an exception that has left a def: it flies over B, which holds all that stood at the raise but the frames -/
def CXr (P : Program) (w : World) : CXT := fun outer H s E e s' => ∃ (ea : Addr) (cls a0 : Value) (B : Heap) (H' : Hp), e = .ref ea ∧ s'.os = s.os ∧ AllBare s'.gens ∧ Un (frs outer) [] H H' s.heap s'.heap ∧ HOk P w H' s'.heap ∧
  Heap.FlyingW B outer ea cls a0 s'.heap ∧ (∀ b o, s.heap.get? b = some o → b ∉ frs outer → ∃ o', B.get? b = some o') ∧ (∀ b u, H' b = some u → ∃ o', B.get? b = some o') ∧ E cls none H'
structure Xp (X : Cx) (E : XK) : Prop where
  pass : Passes (CXr X.prog X.w) X E
  own : PassesOwn (model X.prog X.w) X.A X.env X.xe
def Xm (X : Cx) (E : XK) : Prop := ∀ (pins : List (Addr × Obj)) (σ : St) (H : Hp) (s : Shared) (h' : Heap) (e : Addr) (cls : Value) (args : List Value), Inv X pins σ H s → Heap.MadeExcOf s.heap h' e cls args → E cls none H → X.xe (.ref e) { s with heap := h' }

theorem leave_un {X : Cx} {pins : List (Addr × Obj)} {σ : St} {H : Hp} {s1 : Shared} (I : Inv X pins σ H s1) (he : X.ex = []) {B h' : Heap} (b1 : B.StaysIn s1.heap) (b2 : B.StaysIn h')
    (sm : ∀ b o, s1.heap.get? b = some o → b ∈ X.fs → ∃ sl, h'.get? b = some { o with slots := sl }) (d1 : ∀ b o, X.s₀.heap.get? b = some o → b ∉ X.fs → ∃ o', B.get? b = some o') (d2 : ∀ b u, H b = some u → ∃ o', B.get? b = some o') :
    Un X.fs [] X.H₀ H X.s₀.heap h' ∧ HOk X.prog X.w H h' := by
  have same : ∀ b o, s1.heap.get? b = some o → (∃ o', B.get? b = some o') → h'.get? b = some o := fun b o e ⟨o', e'⟩ => by
    have z := b1 b o' e'
    rw [e] at z; cases z
    exact b2 b o e'
  have nx : ∀ b, b ∉ X.ex := fun b z => by rw [he] at z; cases z
  refine ⟨⟨fun b o q n hb _ => same b o (I.base.keep b o q n hb (nx b)) (d1 b o q hb), fun b o q n hb _ => ?_, fun b o q n _ => I.base.free b o q n (nx b), fun b o q _ => ?_, I.base.tups, I.base.frzs, I.base.tbls⟩, fun b u e => ?_⟩
  · obtain ⟨sl, e1⟩ := I.base.slot b o q n hb (nx b)
    obtain ⟨sl', e2⟩ := sm b _ e1 hb
    exact ⟨sl', e2⟩
  · obtain ⟨o1, e1⟩ := I.base.there b o q (nx b)
    by_cases hb : b ∈ X.fs
    · obtain ⟨sl, e2⟩ := sm b o1 e1 hb
      exact ⟨_, e2⟩
    · exact ⟨_, same b o1 e1 (d1 b o q hb)⟩
  · refine (I.hok b u e).stay (fun c v hc q => same c v q ?_) (fun _ q => q) fun _ _ q => q
    rcases hc with z | z
    · rw [z]; exact d2 b u e
    · exact d2 c _ z

theorem Inv.offStack {X : Cx} {pins : List (Addr × Obj)} {σ : St} {H : Hp} {s : Shared} (I : Inv X pins σ H s) {b : Addr} {o : Obj} (q : X.s₀.heap.get? b = some o) (hb : b ∉ X.fs) : b ∉ frs X.stack := fun z => by
  rcases List.mem_cons.mp (I.stkSub b z) with z | z
  · rw [z] at q
    exact absurd (Nat.lt_of_lt_of_le (Heap.lt_size q) I.ok.above) (Nat.lt_irrefl _)
  · exact hb z
theorem Inv.nonrec {X : Cx} {pins : List (Addr × Obj)} {σ : St} {H : Hp} {s : Shared} (I : Inv X pins σ H s) {b : Addr} {o : Obj} (q : s.heap.get? b = some o) (hb : b ∈ X.fs) : ∀ vs, o.data ≠ .fields vs := by
  obtain ⟨_, o', e, hd⟩ := I.funs.mem hb
  rw [q] at e; cases e; exact hd

section
variable {P : Program} {w : World} {K : PySem.W.Frag} {mg : Str → Option Value} {base : Heap} {N : List Str} {qual : Str} {scope : Scope} {f : Addr} {cd : Value} {A : Around} {outer : List Env} {s : Shared} {H : Hp} {E : XK}
theorem xp_def : Xp (cxOf (CXr P w) P w K mg base N qual scope f cd A outer s H E) E where
  own := PassesOwn.leaving
  pass := by
    intro pins σ H1 s1 e s' I h
    obtain ⟨ea, cls, a0, B, H', rfl, ho, hg, u, hok, fl, dm, tr, hE⟩ := h
    have I' := I.call' ho u hok hg (fun b hb => by cases hb)
    refine wpAny_leaves_onW I.ok.frames rfl fl fun h' fl' sm => ?_
    obtain ⟨un, hk⟩ := leave_un I' rfl fl.1 fl'.1 (fun b o q hb => sm b o q (I'.nonrec q hb)) (fun b o q hb => by
      obtain ⟨o1, e1⟩ := I.base.there b o q (fun z => by cases z)
      exact dm b o1 e1 (I.offStack q hb)) tr
    exact ⟨ea, cls, a0, B, H', rfl, I'.os, hg, un, hk, fl', fun b o q hb => by
      obtain ⟨o1, e1⟩ := I.base.there b o q (fun z => by cases z)
      exact dm b o1 e1 (I.offStack q hb), tr, hE⟩
theorem xm_def : Xm (cxOf (CXr P w) P w K mg base N qual scope f cd A outer s H E) E := by
  intro pins σ H1 s1 h' e cls args I mx hE
  have hkb : (PySem.W.hideAll s1.heap (frs (cxOf (CXr P w) P w K mg base N qual scope f cd A outer s H E).stack)).StaysIn s1.heap := fun b o q => PySem.W.of_hideAll _ q
  have dm : ∀ b o, (cxOf (CXr P w) P w K mg base N qual scope f cd A outer s H E).s₀.heap.get? b = some o → b ∉ (cxOf (CXr P w) P w K mg base N qual scope f cd A outer s H E).fs → ∃ o', (PySem.W.hideAll s1.heap (frs (cxOf (CXr P w) P w K mg base N qual scope f cd A outer s H E).stack)).get? b = some o' := fun b o q hb => by
    obtain ⟨o1, e1⟩ := I.base.there b o q (fun z => by cases z)
    exact ⟨o1, PySem.W.hideAll_get _ e1 (I.offStack q hb)⟩
  have tr : ∀ b u, H1 b = some u → ∃ o', (PySem.W.hideAll s1.heap (frs (cxOf (CXr P w) P w K mg base N qual scope f cd A outer s H E).stack)).get? b = some o' := fun b u q => by
    obtain ⟨o1, e1⟩ := (I.hok b u q).ex
    exact ⟨o1, PySem.W.hideAll_get _ e1 (fun z => by rw [I.stkFree b z] at q; cases q)⟩
  refine wpAny_leaves_madeW I.ok.frames rfl hkb (PySem.W.funFrames_hide I.stack fun env he a ha => List.mem_filterMap.mpr ⟨env, he, ha⟩) mx fun h2 t fl tup hn sm => ?_
  obtain ⟨un, hk⟩ := leave_un I rfl hkb fl.1 (fun b o q hb => sm b o (mx.keeps b o q) (I.nonrec q hb)) dm tr
  exact ⟨e, cls, .ref t, _, H1, rfl, I.os, I.bare, un, hk, fl, dm, tr, hE⟩
end

/-- THE RULE for a def that may raise -/
theorem Fun.okX {P : Program} {w : World} {K : PySem.W.Frag} {mg : Str → Option Value} {base : Heap} {x qual : Str} {st : Stmt} {f : Addr} {fd : FuncData} {N ps : List Str} {k : Nat} {sp : Sp} (F : Fun K x qual st f fd) (S : FnScope N ps (defScope st)) (len : ∀ vs H Q E, sp vs H Q E → vs.length = ps.length)
    (hbody : ∀ (cdv : Value) (A : Around) (outer : List Env) (s : Shared) (H : Hp) (vs : List V) (Q : VK) (E : XK), Room k (A.deeper (envOfC qual (defScope st) s.heap.objs.size f cdv)) → sp vs H Q E →
      ∃ t, PSs (cxOf (CXr P w) P w K mg base N qual (defScope st) f cdv A outer s H E) (defBody st) t ∧ t { nx := fun _ H' => Q .non H', rt := Q } (start N vs) H) :
    FnOk P w K mg base (CXr P w) (k + 1) f fd ps sp := by
  obtain ⟨oc, od, kV, doc, pm, an, cdv, ct, osl, rfl, lk, hcd⟩ := F.ex
  exact fn_of lk hcd S len fun A outer s H vs Q E hr h => hbody cdv A outer s H vs Q E hr h

/-! ### raise -/
abbrev bmV : List Value := [.type "ValueError", .type "Exception", .type "BaseException", .type "object"]
structure ExcCls (K : PySem.W.Frag) (x : Str) (C : Addr) : Prop where
  at_ : PySem.W.nsIn K mainGlobals x = some (some (.ref C))
  exc : PySem.W.excIn K C bmV "ValueError.__new__" = true
def keyStr (e : DictEntry) : Option Str := match e.key with
  | .str n _ => some n
  | _ => none
theorem nsFind_none {es : Array DictEntry} (hk : StrKeys es) {x : Str} (h : x ∉ es.toList.filterMap keyStr) : nsFind es x = none := by
  cases e : nsFind es x with
  | none => rfl
  | some v =>
    exfalso
    unfold nsFind findBy at e
    rw [Option.map_eq_some_iff] at e
    obtain ⟨d, hd, _⟩ := e
    have hm := Array.mem_of_find?_eq_some hd
    have hp := Array.find?_some hd
    obtain ⟨n, t, hn⟩ := hk d hm
    refine h (List.mem_filterMap.mpr ⟨d, by simpa using hm, ?_⟩)
    unfold keyStr
    rw [hn] at hp ⊢
    have hp : (Value.str n t).isStr x = true := hp
    simp [Value.isStr] at hp
    simp [hp]
theorem own_mod {K : PySem.W.Frag} {mg : Str → Option Value} {base : Heap} {x : Str} {C : Addr} (M : Mod K mg base) (O : ExcCls K x C) : OwnCls x C bmV "ValueError.__new__" mg base := by
  obtain ⟨mb, hb, hbb⟩ := M.blt
  obtain ⟨o, es, ep, ho, hd, hk, hf⟩ := id M.glob
  exact PySem.W.own_of_in (p := default) (loose := es.toList.filterMap keyStr) M.kin ⟨M.glob, hb, M.nolimit, hbb, fun y _ hl _ _ _ => by rw [← hf y]; exact nsFind_none hk hl⟩ O.at_ O.exc

def tRaise (E : XK) (C : Addr) (ta : TA) : TS := fun _ σ H => ta σ H fun vs H1 => vs.length ≤ sizeLine ∧ E (.ref C) none H1
theorem ps_raise {X : Cx} {E : XK} {x : Str} {C : Addr} {e : Expr} {es : List Expr} {ta : TA} {np cpos pos : Pos} (xm : Xm X E) (hc : X.calm = true) (hg : Gl X x) (hm : X.mg x = some (.ref C)) (O : ExcCls X.K x C) (ha : PA X (e :: es) ta)
    (hd : (x == ("__debug__" : Str)) = false := by decide) (he : starEach (e :: es) X.env = (false, eval e X.env) :: starEach es X.env := by rfl) (hpl : (backTo cpos (starEach es X.env)).any (·.1) = false := by rfl) :
    PS X (.Raise (some (.Call (.Name x np) (e :: es) [] cpos)) none pos) (tRaise E C ta) := by
  intro pins s σ H D I h
  obtain ⟨tl, Nn, nm, q, bs, hdct, sn, sub, ab, col, dd, k0, k1, k2, k3, k5, mN, hC, hN, hni, T⟩ := (own_mod I.mod O).obj
  refine wpAny_Raise_call_subT (C := C) (nm := nm) (q := q) (N := Nn) (bs := bs) (bm := tl) (hdct := hdct) (sn := sn) (sub := sub) (ab := ab) (col := col) (dd := dd) (k0 := k0) (k1 := k1) (k2 := k2) (k3 := k3) (k5 := k5)
    PySem.F.excBase_ValueError (mN := mN) (T.hasType PySem.F.excBase_ValueError.hasBase) (I.ok.hd hc) (by rw [he]; show (false || (backTo cpos (starEach es X.env)).any (·.1)) = false; rw [hpl]; rfl) hni (ld_glob I hg hm ⟨rfl, ?_⟩ hd)
  have hA := ha cpos pins s σ H _ I h
  rw [he] at hA ⊢
  refine Calls.evalArgs_plain (thn hA fun us s2 hh => ?_)
  obtain ⟨vs, H2, I2, rv, hl, hE⟩ := hh
  exact ⟨rfl, by rw [← rv.length]; exact hl, I2.bk _ _ hC, hN.keeps I2.bk, T.keeps I2.bk, fun h' ea mx => xm pins σ H2 s2 h' ea _ _ I2 mx hE⟩

/-! ### f-strings of written texts and small ints: some text -/

end L2
namespace L2
open PySem PySem.W PySem.Spec PyProof.Rows PySem.Calls
section
variable {prog : Program} {w : World} {A : Around} {E : Value → Shared → Prop} {h : Heap} {g : Array GenState} {d : Drawn} {t : Nat} {os : OsState} {a C : Addr} {o : Obj} {K : Frag}
  {nm q : Str} {N : Addr} {bs bm : List Value} {hdct : Bool} {sn : List Str} {sub : List Value} {ab : Bool} {col : Option Bool} {dd : Option Addr} {k0 k1 k2 k3 k5 : Option Value} {newId : String}
theorem xc_get {R : Result → Shared → Prop} {tp : Value} (hC : h.get? C = some (excClassObj nm q C N bs bm hdct sn sub ab col dd k0 k1 k2 k3 k5 newId)) (T : OwnTail h bmV bm) (hx : h.get? a = some o) (hc : o.cls = .ref C) (hq : R (.ok (.ret (.ref C))) ⟨h, g, d, t, os⟩) :
    codeAny (model prog w) A (.call (.builtin "getset_descriptor.__get__") ⟨[.builtin "object.__class__", .ref a, tp], []⟩) R ⟨h, g, d, t, os⟩ := by
  have ofObj : (Value.ref C :: bm).contains (.type (".".intercalate ("object.__class__".cutAt '.').dropLast)) = true := by
    rw [F.owner_object_class, List.contains_cons, T.hasType (b := true) (by decide +kernel)]; rfl
  have hT5 : (⟨h, g, d, t, os⟩ : Shared).TypeIs (.builtin "object.__class__") "getset_descriptor" := F.typeOf_object_class
  refine codeAny_call_builtin F.slot_gs_get.plain
    F.entry_gs_get (F.slot_gs_get.check _ _ _ _ _ _ _ _ hT5
      (F.args_gs_get _ _ _) ?_)
  repeat (any_goals (first | assumption | (with_reducible refine wpAny_loadPart_at hx ?_; rw [hc]) | (with_reducible refine wpAny_isSubtype_exc hC ?_; rw [ofObj]) | wp_step))
  refine ⟨Code.quiet_builtin _ (by decide +kernel), codeAny_builtin
    F.entry_object_class ?_⟩
  repeat (any_goals (first | assumption | (with_reducible refine wpAny_loadPart_at hx ?_; rw [hc]) | wp_step))
theorem xc_entry {tk : Tok} {Q : Fin → Shared → Prop} (X : K.In h) (e3 : findIn K (.ref C) "__class__" = some (some (.builtin "object.__class__"))) (hC : h.get? C = some (excClassObj nm q C N bs bm hdct sn sub ab col dd k0 k1 k2 k3 k5 newId)) (T : OwnTail h bmV bm) (hx : h.get? a = some o) (hc : o.cls = .ref C)
    (hq : Q (.done (.ret (.ref C))) ⟨h, g, d, t, os⟩) :
    wpAny (model prog w) A (Builtin.«object.__getattribute__» ⟨[.ref a, .str "__class__" tk], []⟩) Q E ⟨h, g, d, t, os⟩ := by
  have hT5 : (⟨h, g, d, t, os⟩ : Shared).TypeIs (.builtin "object.__class__") "getset_descriptor" := F.typeOf_object_class
  have f5 := F.typeOf_object_class
  have f6 := F.slot_gs_get.lookup
  have f7 := F.slot_gs_set.lookup
  have LC := looks_findIn (M := model prog w) X e3
  repeat (any_goals (first | assumption | (with_reducible refine wpAny_loadPart_at hx ?_; rw [hc]) | with_reducible refine Looks.at LC ?_ | wp_step))
  refine xc_get hC T hx hc ?_
  repeat (any_goals (first | assumption | wp_step))
theorem xc_check {M : Model} {nv : Value} {Q : Unit → Shared → Prop} (hC : h.get? C = some (excClassObj nm q C N bs bm hdct sn sub ab col dd k0 k1 k2 k3 k5 newId)) (T : OwnTail h bmV bm) (hx : h.get? a = some o) (hc : o.cls = .ref C)
    (hq : Q () ⟨h, g, d, t, os⟩) : wpAny M A (checkBuiltinCall "BaseException.__getattribute__" ⟨[.ref a, nv], []⟩) Q E ⟨h, g, d, t, os⟩ := by
  have kd : builtinKind "BaseException.__getattribute__" = some .slot := by decide +kernel
  have sp : splitId "BaseException.__getattribute__" = some ("BaseException", "__getattribute__") := by decide +kernel
  have isB : (Value.ref C :: bm).contains (.type "BaseException") = true := by
    rw [List.contains_cons, T.hasType (b := true) (by decide +kernel)]; rfl
  have ok := F.args_bexc_ga (.ref a) nv
  simp only [checkBuiltinCall, kd, sp]
  refine wpAny_bind ?_
  unfold isInstance
  repeat (first | (with_reducible refine wpAny_loadPart_at hx ?_; rw [hc]) | (with_reducible refine wpAny_isSubtype_exc hC ?_; rw [isB]) | wp_step)
  exact hq
theorem xc_by {tk : Tok} {Q : Value → Shared → Prop} (X : K.In h) (e1 : findIn K (.ref C) "__getattribute__" = some (some (.builtin "BaseException.__getattribute__"))) (e2 : findIn K (.ref C) "__getattr__" = some none)
    (e3 : findIn K (.ref C) "__class__" = some (some (.builtin "object.__class__"))) (hC : h.get? C = some (excClassObj nm q C N bs bm hdct sn sub ab col dd k0 k1 k2 k3 k5 newId)) (T : OwnTail h bmV bm) (hx : h.get? a = some o) (hc : o.cls = .ref C)
    (hq : Q (.ref C) ⟨h, g, d, t, os⟩) : wpAny (model prog w) A (getAttrBy (.ref a) (.str "__class__" tk) false) Q E ⟨h, g, d, t, os⟩ := by
  have LG := looks_findIn (M := model prog w) X e1
  have LN := looks_findIn (M := model prog w) X e2
  have f3 := PySem.F.attr_ValueError.ga.bind (.ref a)
  have nh : (onTheHeap (Value.ref C) && Value.builtin "BaseException.__getattribute__" == Value.builtin "object.__getattribute__") = false := by
    rw [show (Value.builtin "BaseException.__getattribute__" == Value.builtin "object.__getattribute__") = false from by decide +kernel, Bool.and_false]
  repeat (any_goals (first | assumption | (with_reducible refine wpAny_loadPart_at hx ?_; rw [hc]) | with_reducible refine Looks.at LG ?_ | with_reducible refine Looks.at LN ?_ | wp_step))
  refine codeAny_call_builtin PySem.F.attr_ValueError.ga.plain F.entry_bexc_ga (xc_check hC T hx hc (xc_entry X e3 hC T hx hc ?_))
  repeat (any_goals (first | assumption | wp_step))
theorem xc_attr {Q : Option Value → Shared → Prop} (X : K.In h) (e1 : findIn K (.ref C) "__getattribute__" = some (some (.builtin "BaseException.__getattribute__"))) (e2 : findIn K (.ref C) "__getattr__" = some none)
    (e3 : findIn K (.ref C) "__class__" = some (some (.builtin "object.__class__"))) (hC : h.get? C = some (excClassObj nm q C N bs bm hdct sn sub ab col dd k0 k1 k2 k3 k5 newId)) (T : OwnTail h bmV bm) (hx : h.get? a = some o) (hc : o.cls = .ref C)
    (hq : Q (some (.ref C)) ⟨h, g, d, t + 1, os⟩) : wpAny (model prog w) A (getAttr? (.ref a) "__class__") Q E ⟨h, g, d, t, os⟩ := by
  unfold getAttr? getAttrBy?
  repeat (any_goals (first | assumption | with_reducible apply xc_by X e1 e2 e3 hC T hx hc | wp_step))
end
/-- what the written part tells of an error class of the text's own -/
structure ExcK (K : Frag) (x : Str) (C : Addr) : Prop extends ExcCls K x C where
  e1 : findIn K (.ref C) "__getattribute__" = some (some (.builtin "BaseException.__getattribute__"))
  e2 : findIn K (.ref C) "__getattr__" = some none
  e3 : findIn K (.ref C) "__class__" = some (some (.builtin "object.__class__"))
  e4 : (clsIn K C).isSome = true
def ExcAt (ea C : Addr) : Heap → Prop := fun h => ∃ o vs, h.get? ea = some o ∧ o.cls = .ref C ∧ o.data = .fields vs
theorem kitx_exc {K : Frag} {mg : Str → Option Value} {base : Heap} {x : Str} {C ea : Addr} (M : Mod K mg base) (O : ExcK K x C) :
    KitX K (.ref ea) (.ref C) (fun h => ExcAt ea C h ∧ ∀ b o, base.get? b = some o → h.get? b = some o) where
  ty := fun _ h _ p => by
    obtain ⟨⟨o, vs, hx, hc, _⟩, _⟩ := p
    exact hc ▸ (Looks.ld hx).andThen .now
  it := fun _ h X _ => by
    have e := O.e4
    unfold clsIn at e
    split at e
    · rename_i c' d' cd' sl' ho
      intro A' Q' E' s' k q
      unfold isType loadHead
      exact wpAny_bind (wpAny_loadPart (k _ _ (X _ _ ho)) (wpAny_pure q))
    · cases e
  ne := fun h tp dd its n sl X htp => by
    refine Bool.eq_false_iff.mpr fun q => ?_
    have e := O.e4
    have z : C = tp := Value.ref.inj (beq_iff_eq.mp q)
    subst z
    unfold clsIn at e
    split at e
    · rename_i c' d' cd' sl' ho
      have z := (X _ _ ho).symm.trans htp
      cases z
    · cases e
  ca := fun {prog w A E Q s} X p k => by
    obtain ⟨hp, g, d, t, os⟩ := s
    obtain ⟨⟨o, vs, hx, hc, _⟩, kp⟩ := p
    obtain ⟨tl, Nn, nm, q, bs, hdct, sn, sub, ab, col, dd, k0, k1, k2, k3, k5, mN, hC, hN, hni, T⟩ := ((own_mod M O.toExcCls).keeps kp).obj
    exact xc_attr X O.e1 O.e2 O.e3 hC T hx hc k
end L2
namespace L2
open PySem PySem.Spec PyProof.Rows
structure RoomH (k : Nat) (A : Around) : Prop where
  dp : A.depth + 3 * k + 5 < recursionLimit
  un : A.units + 16 * k + 200 < cLine
theorem RoomH.deeper {k : Nat} {A : Around} (r : RoomH (k + 1) A) (env : Env) : RoomH k (A.deeper env) :=
  ⟨by have := r.dp; show A.depth + 1 + 3 * k + 5 < _; omega, by have := r.un; show A.units + 3 + 16 * k + 200 < _; omega⟩
theorem RoomH.depth {k : Nat} {A : Around} (r : RoomH k A) : A.depth < recursionLimit := by have := r.dp; omega
structure FnOkH (P : Program) (w : World) (K : PySem.W.Frag) (mg : Str → Option Value) (base : Heap) (CX : CXT) (k : Nat) (f : Addr) (fd : FuncData) (ps : List Str) (sp : Sp) : Prop where
  len : ∀ vs H Q E, sp vs H Q E → vs.length = ps.length
  run : ∀ (A : Around) (outer : List Env) (s : Shared) (H : Hp) (args : Args) (us : List Value) (vs : List V) (Q : VK) (E : XK), RoomH k A → Env0 P w K mg base A outer s H → BindsTo s fd args (ps.zip us) → Vals vs us → sp vs H Q E →
    codeAny (model P w) A (.call (.ref f) args) (CR CX outer P w H s Q E) s
section
variable {X : Cx} {CX : CXT} {k : Nat} {f C : Addr} {fd : FuncData} {ps : List Str} {sp : Sp} {dvs : List V} {ds : List Value} {E : XK} {x m : Str} {p pos apos : Pos} {e o : Expr} {es : List Expr} {ta : TE} {t : TA}
theorem run_fnH {pins : List (Addr × Obj)} {σ : St} {H : Hp} {s : Shared} {Q : VK} {us : List Value} {vs : List V} (F : FnOkH X.prog X.w X.K X.mg X.base CX k f fd ps sp) (hr : RoomH k X.A) (hb : Binds X.K fd ps ds) (hd : Vals dvs ds) (hx : Passes CX X E)
    (I : Inv X pins σ H s) (r : Vals vs us) (h : sp (vs ++ dvs) H Q E) : wpAny (model X.prog X.w) X.A (call (.ref f) us) (EP X pins σ Q) X.xe s := by
  have r2 : Vals (vs ++ dvs) (us ++ ds) := r.append hd
  have hl : (us ++ ds).length = ps.length := by rw [← r2.length]; exact F.len _ _ _ _ h
  refine wpAny_call (codeAny_mono (F.run X.A X.stack s H ⟨us, []⟩ (us ++ ds) (vs ++ dvs) Q E hr I.env0 (hb s us I.kIn hl) r2 h) fun r s' hq => ?_)
  cases r with
  | error e => exact hx pins σ H s e s' I hq
  | ok fl =>
    cases fl with
    | ret u => exact I.after hq
    | next => exact False.elim hq
    | brk => exact False.elim hq
    | cont => exact False.elim hq
theorem pe_callH (F : FnOkH X.prog X.w X.K X.mg X.base CX k f fd ps sp) (hr : RoomH k X.A) (hg : Gl X x) (hm : X.mg x = some (.ref f)) (hk : PySem.W.keepIn X.K (.ref f) = true) (hb : Binds X.K fd ps ds) (hd : Vals dvs ds) (hx : Passes CX X E)
    (ha : PA X (e :: es) t) (hdb : (x == ("__debug__" : Str)) = false := by decide) (he : starEach (e :: es) X.env = (false, eval e X.env) :: starEach es X.env := by rfl) (hpl : (backTo pos (starEach es X.env)).any (·.1) = false := by rfl) :
    PE X (.Call (.Name x p) (e :: es) [] pos) (tCall sp dvs E t) := by
  intro pins s σ H Q I h
  refine wpAny_Call_Name_kw (ld_glob I hg hm ?_ hdb)
  refine PySem.W.callWith_K (h₀ := X.base) I.ok.mod.kin hk (thn (ha pos pins s σ H _ I h) fun us s1 ⟨vs, H1, I1, r, q⟩ => ⟨I1.kIn, ?_⟩) he hpl
  exact run_fnH F hr hb hd hx I1 r q
end
def cxOfH (CX : CXT) (P : Program) (w : World) (K : PySem.W.Frag) (mg : Str → Option Value) (base : Heap) (N : List Str) (qual : Str) (scope : Scope) (f : Addr) (cd : Value) (A : Around) (outer : List Env) (s : Shared) (H : Hp) (E : XK) : Cx where
  prog := P
  w := w
  K := K
  mg := mg
  base := base
  A := A.deeper (envOfC qual scope s.heap.objs.size f cd)
  N := N
  s₀ := s
  H₀ := H
  env := envOfC qual scope s.heap.objs.size f cd
  outer := outer
  stack := envOfC qual scope s.heap.objs.size f cd :: outer
  ex := []
  calm := false
  fn := fun _ => true
  pn := []
  xe := fun e s' => wpAny (model P w) (A.deeper (envOfC qual scope s.heap.objs.size f cd)) (leaving (envOfC qual scope s.heap.objs.size f cd) e) (fun _ s'' => CX outer H s E e s'') (fun e' s'' => CX outer H s E e' s'') s'
theorem inv_startH {CX : CXT} {P : Program} {w : World} {K : PySem.W.Frag} {mg : Str → Option Value} {base : Heap} {N ps : List Str} {qual : Str} {scope : Scope} {f : Addr} {cd : Value} {A : Around} {outer : List Env} {s s1 : Shared} {H : Hp} {E : XK} {us : List Value} {vs : List V}
    (S : FnScope N ps scope) (e0 : Env0 P w K mg base A outer s H) (hl : vs.length = ps.length) (r : Vals vs us)
    (x : InCallC s s.heap.objs.size (bindL (envOfC qual scope s.heap.objs.size f cd).kindOf (ps.zip us) fun _ => none) (cellsFrom (s.heap.objs.size + 1) scope.names []) (bindC (envOfC qual scope s.heap.objs.size f cd).kindOf (ps.zip us) fun _ => none) s1) :
    Inv (cxOfH CX P w K mg base N qual scope f cd A outer s H E) [] (start N vs) H s1 := by
  have hpl : ps.length ≤ N.length := by have := congrArg List.length S.pre; rw [List.length_take] at this; omega
  obtain ⟨h1, tk, rfl, hk⟩ := x.done
  have noA : ∀ b : Addr, b ∉ (cxOfH CX P w K mg base N qual scope f cd A outer s H E).ex := fun b z => absurd (show b ∈ ([] : List Addr) from z) (by simp)
  refine ⟨⟨e0.mod, S.kind, rfl, rfl, Nat.le_refl _, fun y z c h1 h2 => ?_, fun y hy => ?_, fun y c _ h => ?_, fun z => (by cases z), Around.frames_deeper e0.frames, .inr ⟨rfl, rfl⟩, fun b z => absurd z (noA b), e0.bs, e0.bsz, fun b _ _ => noA b, fun b z => absurd z (noA b), e0.funs, e0.frf⟩,
    rfl, e0.bare, Un.kept hk, ⟨_, x.toInCall.ns, fun i y v h1 h2 h3 => ?_⟩, fun y c h => ⟨_, x.cell y c h⟩, e0.hok.fresh (Nat.le_refl _), fun y c h => ?_, fun p hp => absurd (show p ∈ ([] : List (Addr × Obj)) from hp) (by simp), e0.hok.kept hk, ?_⟩
  · exact name_of_addr x.apart (PySem.mem_of_lookup h1) (PySem.mem_of_lookup h2)
  · have hy : scope.names.lookup y = some .cell ∨ scope.names.lookup y = some .free := hy
    rcases hy with hy | hy
    · exact cell_has hy
    · exact absurd rfl (S.nofree _ (PySem.mem_of_lookup hy))
  · exact Nat.le_of_lt (x.above y c (PySem.mem_of_lookup h))
  · have hi : i < vs.length := by
      unfold start at h2
      by_cases hi : i < vs.length
      · exact hi
      · rw [List.getElem?_append_right (by simpa using hi)] at h2
        rw [List.getElem?_replicate] at h2
        split at h2 <;> cases h2
    have ha : vs[i]? = some v := by
      unfold start at h2
      rw [List.getElem?_append_left (by simpa using hi), List.getElem?_map] at h2
      cases e : vs[i]? with
      | none => rw [e] at h2; cases h2
      | some a => rw [e] at h2; cases h2; rfl
    obtain ⟨u, hu, rv⟩ := r.get ha
    have hp : ps[i]? = some y := by
      rw [← S.pre, List.getElem?_take_of_lt (by omega)]; exact h1
    have ndP : ps.Nodup := by rw [← S.pre]; exact S.nd.sublist (List.take_sublist _ _)
    refine ⟨u, rv, ?_⟩
    rcases S.par y (List.mem_of_getElem? hp) with k | k
    · exact .inl ⟨k, bindL_get ndP hp hu k⟩
    · obtain ⟨c, e⟩ := cell_has (n := s.heap.objs.size + 1) k
      refine .inr ⟨.inl k, c, e, ?_⟩
      have q := x.cell y c e
      rw [bindC_get ndP hp hu (by show scope.names.lookup y ≠ _; rw [k]; decide)] at q
      exact q
  · exact e0.hok.fresh (Nat.le_of_lt (x.above y c (PySem.mem_of_lookup h)))
  · unfold start
    show _ = N.length
    rw [List.length_append, List.length_map, List.length_replicate]
    omega
theorem fn_ofH {CX : CXT} {P : Program} {w : World} {K : PySem.W.Frag} {mg : Str → Option Value} {base : Heap} {k : Nat} {f : Addr} {name qual : Str} {params : Arguments} {body : List Stmt} {scope : Scope} {dV kV doc pm cdv ct oc : Value} {an od : Option Addr}
    {osl : Array (Option Value)} {N ps : List Str} {sp : Sp} (lk : K.lookup f = some ⟨oc, od, .func (PySem.W.fnOf name qual params body scope dV kV doc pm an cdv ct), osl⟩) (hcd : PySem.W.codeIn K cdv qual = true) (S : FnScope N ps scope)
    (len : ∀ vs H Q E, sp vs H Q E → vs.length = ps.length)
    (hbody : ∀ (A : Around) (outer : List Env) (s : Shared) (H : Hp) (vs : List V) (Q : VK) (E : XK), RoomH k (A.deeper (envOfC qual scope s.heap.objs.size f cdv)) → sp vs H Q E →
      ∃ t, PSs (cxOfH CX P w K mg base N qual scope f cdv A outer s H E) body t ∧ t { nx := fun _ H' => Q .non H', rt := Q } (start N vs) H) :
    FnOkH P w K mg base CX (k + 1) f (PySem.W.fnOf name qual params body scope dV kV doc pm an cdv ct) ps sp := by
  refine ⟨len, fun A outer s H args us vs Q E hr e0 hb r hsp => ?_⟩
  have hl := len _ _ _ _ hsp
  have KX : K.In s.heap := e0.mod.kin.keeps fun b o e => (e0.bs b o e).1
  have lim : s.heap.NoLimit := e0.mod.nolimit.keeps fun b o e => (e0.bs b o e).1
  have hkind : ∀ y ∈ ps.zip us, scope.names.lookup y.1 = some .local ∨ (scope.names.lookup y.1 = some .cell ∧ ((cellsFrom (s.heap.objs.size + 1) scope.names []).lookup y.1).isSome = true) := fun ⟨n, v⟩ hy => by
    rcases S.par n (List.of_mem_zip hy).1 with q | q
    · exact .inl q
    · exact .inr ⟨q, PySem.W.cellsFrom_some _ _ _ (.inl q)⟩
  refine codeAny_call_function hr.depth (KX _ _ lk) rfl S.co S.gen rfl (PySem.W.codeRec_of KX hcd) (hb _ _ _ _ ?_)
  refine wpAny_newFunctionEnv_cells S.kind hkind fun env he s1 x => ?_
  subst he
  refine ⟨lim.keeps x.toInCall.keep, codeAny_func ?_⟩
  obtain ⟨t, ht, hq⟩ := hbody A outer s H vs Q E (hr.deeper _) hsp
  have I : Inv (cxOfH CX P w K mg base N qual scope f cdv A outer s H E) [] (start N vs) H s1 := inv_startH S e0 hl r x
  refine wpAny_mono (ht [] s1 (start N vs) H _ I hq) (fun fl s' hs => ?_) fun e s' hs => hs
  have fin : ∀ {σ' : St} {H' : Hp} {v : V} {u : Value}, Inv (cxOfH CX P w K mg base N qual scope f cdv A outer s H E) [] σ' H' s' → RelV v u → Q v H' → CE outer P w H s Q u s' :=
    fun {σ' H' v u} J rv q => ⟨v, H', J.os, J.bare, J.base, J.hok, rv, q⟩
  cases fl with
  | ret u =>
    obtain ⟨v, σ', H', J, rv, q⟩ := hs
    exact fin J rv q
  | next =>
    obtain ⟨σ', H', J, q⟩ := hs
    exact fin (v := V.non) (u := Value.none) J rfl q
  | brk =>
    obtain ⟨_, _, _, q⟩ := hs
    exact False.elim q
  | cont =>
    obtain ⟨_, _, _, q⟩ := hs
    exact False.elim q
section
variable {P : Program} {w : World} {K : PySem.W.Frag} {mg : Str → Option Value} {base : Heap}
theorem Fun.okH {x qual : Str} {st : Stmt} {f : Addr} {fd : FuncData} {N ps : List Str} {k : Nat} {sp : Sp} (F : Fun K x qual st f fd) (S : FnScope N ps (defScope st)) (len : ∀ vs H Q E, sp vs H Q E → vs.length = ps.length)
    (hbody : ∀ (cdv : Value) (A : Around) (outer : List Env) (s : Shared) (H : Hp) (vs : List V) (Q : VK) (E : XK), RoomH k (A.deeper (envOfC qual (defScope st) s.heap.objs.size f cdv)) → sp vs H Q E →
      ∃ t, PSs (cxOfH CX0 P w K mg base N qual (defScope st) f cdv A outer s H E).nox (defBody st) t ∧ t { nx := fun _ H' => Q .non H', rt := Q } (start N vs) H) : FnOkH P w K mg base CX0 (k + 1) f fd ps sp := by
  obtain ⟨oc, od, kV, doc, pm, an, cdv, ct, osl, rfl, lk, hcd⟩ := F.ex
  refine fn_ofH lk hcd S len fun A outer s H vs Q E hr hsp => ?_
  obtain ⟨t, h, q⟩ := hbody cdv A outer s H vs Q E hr hsp
  exact ⟨t, h.nox, q⟩
end
end L2

/-! ### isinstance of a caught exception; try -/
namespace L2
open PySem PySem.Spec PyProof.Rows
theorem vals_refs : ∀ {cs : List Addr} {us : List Value}, Vals (cs.map V.ref) us → us = cs.map Value.ref
  | [], _, r => by cases r; rfl
  | c :: cs, _, r => by
    cases r with
    | cons r rr => cases r; rw [vals_refs rr]; rfl
section
variable {X : Cx} (K : PySem.W.Frag)
theorem call_isinstX (hK : X.K = K := by rfl) : CallR X (.builtin "isinstance") (fun xs H Q => ∃ (ea C : Addr) (x : Str) (c : V) (cv : Value) (b : Bool), xs = [.ref ea, c] ∧ H ea = some (.ext (ExcAt ea C)) ∧ ExcK K x C ∧ cvV c = some cv ∧ PySem.W.kitOne K (.ref C) cv = some b ∧ Q (.bl b) H) := by
  subst hK
  intro pins s σ H xs us Q I r h
  obtain ⟨ea, C, x, c, cv, b, rfl, he, O, hc, hk, q⟩ := h
  obtain ⟨u, w', rfl, r1, r2⟩ := vals2 r
  have e : w' = cv := by
    cases c with
    | ty n => have h1 : w' = Value.type n := r2; have h2 : some (Value.type n) = some cv := hc; cases h2; exact h1
    | ref a => have h1 : w' = Value.ref a := r2; have h2 : some (Value.ref a) = some cv := hc; cases h2; exact h1
    | non => cases hc
    | bl _ => cases hc
    | int _ => cases hc
    | str _ => cases hc
    | byt _ => cases hc
    | flt _ => cases hc
  subst e
  cases r1
  have φ : ExcAt ea C s.heap := (show ObjOk X.prog X.w H s.heap ea (.ext (ExcAt ea C)) from I.hok ea _ he).1
  exact PySem.W.kia_one (kitx_exc I.mod O) I.kIn ⟨φ, I.bk⟩ hk (fun z => nomatch z) fun tk => ⟨.bl b, H, I.tok tk, rfl, q⟩
theorem call_isinstXT (hK : X.K = K := by rfl) : CallR X (.builtin "isinstance") (fun xs H Q => ∃ (ea C : Addr) (x : Str) (tp : Addr) (cs : List Addr) (b : Bool), xs = [.ref ea, .ref tp] ∧ H ea = some (.ext (ExcAt ea C)) ∧ ExcK K x C ∧ H tp = some (.tup (cs.map V.ref)) ∧ PySem.W.kitAny K (.ref C) (cs.map Value.ref) = some b ∧ Q (.bl b) H) := by
  subst hK
  intro pins s σ H xs us Q I r h
  obtain ⟨ea, C, x, tp, cs, b, rfl, he, O, ht, hk, q⟩ := h
  obtain ⟨u, w', rfl, r1, r2⟩ := vals2 r
  cases r1
  cases r2
  have φ : ExcAt ea C s.heap := (show ObjOk X.prog X.w H s.heap ea (.ext (ExcAt ea C)) from I.hok ea _ he).1
  obtain ⟨_, its, rv, o, h1, h2, n, h3⟩ := (show ObjOk X.prog X.w H s.heap tp (.tup (cs.map V.ref)) from I.hok tp _ ht)
  have ei := vals_refs rv
  subst ei
  obtain ⟨cl, dd, dt, sl⟩ := o
  have h2 : cl = .type "tuple" := h2
  have h3 : dt = .seq (cs.map Value.ref).toArray n := h3
  subst h2 h3
  exact PySem.W.kia_tup (kitx_exc I.mod O) I.kIn ⟨φ, I.bk⟩ h1 hk (fun z => nomatch z) fun tk => ⟨.bl b, H, I.tok tk, rfl, q⟩
end

def wish2 (X : Cx) (xe : Value → Shared → Prop) (pn : List (Addr × Obj)) : Cx := { X with xe := xe, pn := pn }
def suiteX (X : Cx) (ea : Addr) (pn : List (Addr × Obj)) : Cx := { X with A := X.A.mark (some (.ref ea)), calm := false, xe := fun _ _ => False, pn := pn }
section
variable {X : Cx} {pins pins1 : List (Addr × Obj)} {σ : St} {H : Hp} {s : Shared} {xe : Value → Shared → Prop} {ea : Addr}
theorem Inv.toW (I : Inv X pins σ H s) : Inv (wish2 X xe (X.pn ++ pins)) [] σ H s :=
  ⟨⟨I.ok.mod, I.ok.kind, I.ok.glob, I.ok.blt, I.ok.above, I.ok.inj, I.ok.has, I.ok.cab, I.ok.hd, I.ok.frames, I.ok.stk, I.ok.exf, I.ok.bs, I.ok.bsz, I.ok.noex, I.ok.exfs, I.ok.funs, I.ok.frf⟩, I.os, I.bare, I.base, I.loc, I.cell, I.free, I.freeC,
    fun p hp => I.pin p (by have z : p ∈ (X.pn ++ pins) ++ [] := hp; simpa using z), I.hok, I.len⟩
theorem Inv.ofW (I : Inv (wish2 X xe (X.pn ++ pins)) pins1 σ H s) : Inv X pins σ H s :=
  ⟨⟨I.ok.mod, I.ok.kind, I.ok.glob, I.ok.blt, I.ok.above, I.ok.inj, I.ok.has, I.ok.cab, I.ok.hd, I.ok.frames, I.ok.stk, I.ok.exf, I.ok.bs, I.ok.bsz, I.ok.noex, I.ok.exfs, I.ok.funs, I.ok.frf⟩, I.os, I.bare, I.base, I.loc, I.cell, I.free, I.freeC,
    fun p hp => I.pin p (List.mem_append_left _ hp), I.hok, I.len⟩
theorem Inv.toS (I : Inv X pins σ H s) : Inv (suiteX X ea (X.pn ++ pins)) [] σ H s :=
  ⟨⟨I.ok.mod, I.ok.kind, I.ok.glob, I.ok.blt, I.ok.above, I.ok.inj, I.ok.has, I.ok.cab, fun z => (by cases z), I.ok.frames, I.ok.stk, I.ok.exf, I.ok.bs, I.ok.bsz, I.ok.noex, I.ok.exfs, I.ok.funs, I.ok.frf⟩, I.os, I.bare, I.base, I.loc, I.cell, I.free, I.freeC,
    fun p hp => I.pin p (by have z : p ∈ (X.pn ++ pins) ++ [] := hp; simpa using z), I.hok, I.len⟩
theorem Inv.ofS (hd : X.calm = true → X.A.handled = none) (fr : X.A.frames = some X.stack) (I : Inv (suiteX X ea (X.pn ++ pins)) pins1 σ H s) : Inv X pins σ H s :=
  ⟨⟨I.ok.mod, I.ok.kind, I.ok.glob, I.ok.blt, I.ok.above, I.ok.inj, I.ok.has, I.ok.cab, hd, fr, I.ok.stk, I.ok.exf, I.ok.bs, I.ok.bsz, I.ok.noex, I.ok.exfs, I.ok.funs, I.ok.frf⟩, I.os, I.bare, I.base, I.loc, I.cell, I.free, I.freeC,
    fun p hp => I.pin p (List.mem_append_left _ hp), I.hok, I.len⟩

/-- over a call that ended in an exception, and what the machine did to the frames since -/
theorem fly_un {H' : Hp} {s' : Shared} {B h5 : Heap} (I : Inv X pins σ H s) (u : Un (frs X.stack) [] H H' s.heap s'.heap) (hok : HOk X.prog X.w H' s'.heap) (b1 : B.StaysIn s'.heap) (b2 : B.StaysIn h5) (sm : s'.heap.UpToSlots h5)
    (dm : ∀ b o, s.heap.get? b = some o → b ∉ frs X.stack → ∃ o', B.get? b = some o') (tr : ∀ b u, H' b = some u → ∃ o', B.get? b = some o') : Un (frs X.stack) [] H H' s.heap h5 ∧ HOk X.prog X.w H' h5 := by
  have same : ∀ b o, s'.heap.get? b = some o → (∃ o', B.get? b = some o') → h5.get? b = some o := fun b o e ⟨o', e'⟩ => by
    have z := b1 b o' e'
    rw [e] at z; cases z
    exact b2 b o e'
  have fr : ∀ b o, s.heap.get? b = some o → b ∈ frs X.stack → ∃ sl, h5.get? b = some { o with slots := sl } := fun b o q hb => by
    obtain ⟨sl, e1⟩ := u.slot b o q (I.stkFree b hb) hb (by simp)
    obtain ⟨_, o', e', hd⟩ := I.stack.mem hb
    rw [q] at e'; cases e'
    obtain ⟨sl', e2⟩ := sm b _ e1 hd
    exact ⟨sl', e2⟩
  refine ⟨⟨fun b o q n hb hx => same b o (u.keep b o q n hb hx) (dm b o q hb), fun b o q n hb _ => fr b o q hb, fun b o q n hx => u.free b o q n hx, fun b o q hx => ?_, u.tups, u.frzs, u.tbls⟩, fun b v e => ?_⟩
  · by_cases hb : b ∈ frs X.stack
    · obtain ⟨sl, e2⟩ := fr b o q hb
      exact ⟨_, e2⟩
    · obtain ⟨o1, e1⟩ := u.there b o q hx
      exact ⟨_, same b o1 e1 (dm b o q hb)⟩
  · refine (hok b v e).stay (fun c v hc q => same c v q ?_) (fun _ q => q) fun _ _ q => q
    rcases hc with z | z
    · rw [z]; exact tr b _ e
    · exact tr c _ z

/-- a local name is let go -/
theorem Inv.goes {i : Nat} {n : Str} {m : Str → Option Value} {h' : Heap} {v : Option Value} {t' : Nat} (I : Inv X pins σ H s) (hN : X.N.Nodup) (hi : X.N[i]? = some n)
    (hm : ∀ (j : Nat) (x : Str) (v : V), X.N[j]? = some x → σ[j]? = some (some v) → Vis X.env.scope x → ∃ u, RelV v u ∧ Look X.env s.heap m x u)
    (hn' : h'.Ns X.env.locals (fun x => if x = n then v else m x)) (hs : Heap.SameBut X.env.locals s.heap h') : Inv X pins (σ.set i none) H { s with heap := h', toks := t' } := by
  have keep : ∀ b o, b ≠ X.env.locals → s.heap.get? b = some o → h'.get? b = some o := fun b o hb e => (hs.2 b hb).trans e
  have neL : ∀ b o, X.s₀.heap.get? b = some o → b ≠ X.env.locals := fun b o e => Nat.ne_of_lt (Nat.lt_of_lt_of_le (Heap.lt_size e) I.ok.above)
  refine ⟨I.ok, I.os, I.bare, ⟨fun b o e q hb hx => keep b o (neL b o e) (I.base.keep b o e q hb hx), fun b o e q hb hx => ?_, I.base.free, fun b o e hx => ?_, I.base.tups, I.base.frzs, I.base.tbls⟩, ⟨_, hn', fun j y w' e1 e2 e3 => ?_⟩, fun y c e => ?_, I.free, I.freeC, fun p hp => ?_, fun b ob e => ?_, by simpa using I.len⟩
  · obtain ⟨sl, e1⟩ := I.base.slot b o e q hb hx
    exact ⟨sl, keep b _ (neL b o e) e1⟩
  · obtain ⟨o', e1⟩ := I.base.there b o e hx
    exact ⟨o', keep b _ (neL b o e) e1⟩
  · by_cases hj : i = j
    · subst hj
      rw [List.getElem?_set] at e2
      simp only [if_true] at e2
      split at e2 <;> cases e2
    · rw [List.getElem?_set_ne hj] at e2
      have hy : y ≠ n := fun z => hj (nodup_ix hN hi (z ▸ e1))
      obtain ⟨u, r, l⟩ := hm j y w' e1 e2 e3
      refine ⟨u, r, ?_⟩
      rcases l with ⟨k, q⟩ | ⟨k, c, q, z⟩
      · exact .inl ⟨k, by dsimp only; rw [if_neg hy]; exact q⟩
      · obtain ⟨oc, hoc, hcd⟩ := z
        exact .inr ⟨k, c, q, oc, keep c oc (I.cne y c q) hoc, hcd⟩
  · obtain ⟨v', oc, hoc, hcd⟩ := I.cell y c e
    exact ⟨v', oc, keep c oc (I.cne y c e) hoc, hcd⟩
  · obtain ⟨e, q, ne, nf, d⟩ := I.pin p hp
    exact ⟨keep p.1 p.2 ne e, q, ne, nf, d⟩
  · refine (I.hok b ob e).stay (fun c w' hc q => keep c w' (fun z => ?_) q) (fun _ q => q) fun _ _ q => q
    have hf := I.free
    rcases hc with z' | z'
    · rw [← z', z] at e; rw [hf] at e; cases e
    · rw [z, hf] at z'; cases z'
end

def suiteEnds (i : Nat) (D : Ends) : Ends := ⟨fun σ' H2 => D.nx (σ'.set i none) H2, D.rt, fun σ' H2 => D.bk (σ'.set i none) H2, fun σ' H2 => D.ct (σ'.set i none) H2⟩
end L2
/-! ### list.insert; facts of error classes; small helpers -/
namespace L2
open PySem PySem.Spec PyProof.Rows

theorem pass0X {P : Program} {w : World} {X : Cx} : Passes (CXr P w) X E0 := fun _ _ _ _ _ _ _ h => by
  obtain ⟨_, _, _, _, _, _, _, _, _, _, _, _, _, z⟩ := h
  exact z.elim
theorem roomH {k j : Nat} {A : Around} {h : Option Value} (r : Room k A) (hj : j ≤ k) : RoomH j (A.mark h) := ⟨by have := r.dp; show A.depth + 3 * j + 5 < _; omega, by have := r.un; show A.units + 16 * j + 200 < _; omega⟩
section
variable {K : PySem.W.Frag} {C C' : Addr} {b : Bool}
theorem kit_sub (hne : C ≠ C') (c1 : PySem.W.isClsIn K C' = true) (c2 : PySem.W.typeIn K (.ref C') = some (.type "type")) (m : PySem.W.mroIn K C (.ref C') = some b) : PySem.W.kitOne K (.ref C) (.ref C') = some b := by
  unfold PySem.W.kitOne PySem.W.kitCls
  rw [if_neg (fun z => hne (Value.ref.inj (beq_iff_eq.mp z)))]
  dsimp only
  have c1 : (PySem.W.clsIn K C').isSome = true := c1
  rw [c1, c2, if_pos (by decide +kernel)]
  exact m
theorem ne_mro (h1 : PySem.W.mroIn K C (.ref C) = some true) (h2 : PySem.W.mroIn K C (.ref C') = some false) : C ≠ C' := fun z => by rw [← z, h1] at h2; cases h2
theorem kit_val (m : PySem.W.mroIn K C (.type "ValueError") = some true) : PySem.W.kitOne K (.ref C) (.type "ValueError") = some true := by
  unfold PySem.W.kitOne PySem.W.kitCls
  rw [if_neg (by intro z; cases beq_iff_eq.mp z)]
  dsimp only
  rw [if_pos (by decide +kernel)]
  exact m
end
section
variable {E : XK} {C : Addr} {ta : TA} {D : Ends} {σ : St} {H : Hp} {Q : VK} {te : TE} {t : St → Hp → (Hp → Prop) → Prop} {R : Hp → Prop} {n i : Nat} {tb : XK → TS} {ts : TS}
theorem r_raise (h : ta σ H fun vs H1 => vs.length ≤ sizeLine ∧ E (.ref C) none H1) : tRaise E C ta D σ H := h
end
theorem r_snx {D : Ends} {i : Nat} {σ : St} {H : Hp} (h : D.nx (σ.set i none) H) : (suiteEnds i D).nx σ H := h
end L2
/-! ### > of two int lists; list(d), list(d.values()) -/
namespace L2
open PySem PySem.Spec PyProof.Rows
open PySem.AutoSeq1 (wpAny_loadPart')
open PySem.MeetsSeq PySem.MeetsSeq2 PySem.MeetsSeq3 PySem.SeqAt


theorem Same.upd_fresh {H H' : Hp} {b : Addr} {o : HO} (h : Same H H') (hb : H b = Option.none) : Same H (upd H' b o) := fun c u e => by
  rw [upd_ne (ne_of_none e hb)]; exact h c u e
theorem Room.units1 {k : Nat} {A : Around} (r : Room k A) : A.units + 1 < cLine := by have := r.units; omega


section
variable {σ : St} {H : Hp} {Q : VK} {to td ty tv te : TE} {D : Ends} {trs : List (TE × TE)} {K : PySem.W.Frag} {T : String} {r : V → List V → Hp → VK → Prop}
theorem r_dget (h : td σ H fun x H1 => ty σ H1 fun y H2 => ∃ a v, x = .ref a ∧ DGet H2 a y (some v) ∧ Q v H2) : tDGet td ty σ H Q := h
theorem r_dnotin (h : ty σ H fun y H1 => td σ H1 fun x H2 => ∃ a o, x = .ref a ∧ DGet H2 a y o ∧ Q (.bl (!o.isSome)) H2) : tDNotIn ty td σ H Q := h
theorem r_dput (h : tv σ H fun v H1 => td σ H1 fun x H2 => ty σ H2 fun y H3 => ∃ a H4, x = .ref a ∧ DPut H3 a y v H4 ∧ D.nx σ H4) : sDPut td ty tv D σ H := h
end
end L2
/-! ### breadth first: the least words -/
namespace My
open PySem L2
theorem nodup_le : ∀ (n : Nat) (l : List Nat), l.Nodup → (∀ x ∈ l, x < n) → l.length ≤ n
  | 0, l, _, h => by
    cases l with
    | nil => simp
    | cons a r => exact absurd (h a List.mem_cons_self) (Nat.not_lt_zero _)
  | n + 1, l, hn, h => by
    by_cases hm : n ∈ l
    · have h1 := nodup_le n (l.erase n) (hn.erase n) fun x hx => by
        have h2 := (hn.mem_erase_iff.mp hx)
        have := h x h2.2
        have := h2.1
        omega
      rw [List.length_erase_of_mem hm] at h1
      omega
    · have := nodup_le n l hn fun x hx => by
        have h1 := h x hx
        have h2 : x ≠ n := fun z => hm (z ▸ hx)
        omega
      omega
end My
/-! ### list comprehensions whose block has cells of its own -/
namespace L2
open PySem PySem.Spec PyProof.Rows


end L2
/-! ### a body that begins with a dict display: boxed, so that nothing runs it while it is read -/
namespace L2
open PySem PySem.Spec PyProof.Rows
structure PSsO (X : Cx) (b : List Stmt) (t : TS) : Prop where
  out : PSs X b t
theorem exO {X : Cx} {b : List Stmt} {t : TS} {R : TS → Prop} (h : PSsO X b t) (r : R t) : ∃ t, PSs X b t ∧ R t := ⟨t, h.out, r⟩
end L2
/-! ### breadth first over any kind of key -/
namespace My
open PySem L2

end My
/-! ### {(a, b): v}: one pair, the key a tuple -/
namespace L2
open PySem PySem.Spec PyProof.Rows
def tDispT1 (tk tv : TE) : TE := fun σ H Q => ∀ p, H p = none → tk σ (upd H p (.dT [])) fun x H1 => tv σ H1 fun y H2 => ∃ b ks, x = .ref b ∧ H2 b = some (.tup (ks.map kV)) ∧ H2 p = some (.dT []) ∧ Q (.ref p) (upd H2 p (.dT [(ks, y)]))
theorem pe_dispT1 {X : Cx} {pos : Pos} {k v : Expr} {tk tv : TE} (hu : X.A.units + 1 < cLine) (hk : PE X k tk) (hv : PE X v tv) : PE X (.Dict [some k] [v] pos) (tDispT1 tk tv) := by
  intro pins s σ H Q I q
  rw [arm_eval_Dict, zip_pairTrees [some k] [v] X.env pos rfl rfl, dictDisplay_pairs _ (by simp [pairTrees]) (by simp [pairTrees])]
  have hn := I.hok.fresh (Nat.le_refl s.heap.objs.size)
  have I1 := I.laid (a := s.heap.objs.size) (o := .dT []) (h' := s.heap.push { cls := .type "dict", data := .dict #[] }) (t' := s.toks) (fun _ _ q => Heap.get?_push_of_some _ q) (Nat.le_refl _) (dt_empty s.heap I.big)
  refine wpAny_bind (wpAny_standAt (wpAny_bind ?_))
  unfold subDict
  refine wpAny_bind (wpAny_alloc ?_)
  refine wpAny_bind (wpAny_holding ?_)
  rw [if_pos (by simp [pairTrees])]
  refine wpAny_bind (evalPairs_cons (thn (hk pins _ σ _ _ I1 (q _ hn)) fun kv s1 ⟨x, H1, I2, rx, q1⟩ => ?_))
  refine wpAny_bind (thn (hv pins s1 σ H1 _ I2 q1) fun vv s2 ⟨y, H2, I3, ry, b, ks, ex, hb, hp, q2⟩ => wpAny_bind (wpAny_standAt (wpAny_pure (evalPairs_nil ?_))))
  subst ex
  cases (show kv = Value.ref b from rx)
  obtain ⟨z, hd, xs, rel, dd⟩ := dt_of I3.hok hp
  cases rel
  refine wpAny_holding (wpAny_bind ?_)
  rw [List.forIn_cons]
  refine wpAny_bind (wpAny_bind (wpAny_dictSet_heap (hsz := Nat.zero_le _) ?room (key_of I3.hok hb) dd fun h' dd' hs => ?fin))
  case fin =>
    refine wpAny_pure ?_
    dsimp only
    rw [List.forIn_nil]
    refine wpAny_pure (wpAny_pure (wpAny_pure (wpAny_pure ?_)))
    obtain ⟨q', es, ep, hq, h2, h3, h4, _, h5⟩ := dd'
    have hI := d_write (t' := s2.toks + (tupleKind (mixKind X.prog X.w)).draws ks) I3 (by rw [hp]; exact True.intro) hs ⟨q', hq⟩ (ob := .dT [(ks, y)]) ⟨(show 1 ≤ sizeLine by decide), hd, [(ks, b, vv)], .cons ⟨rfl, by rw [upd_ne (ne_of hb hp (fun z => nomatch z))]; exact hb, ry⟩ .nil, q', es, ep, hq, h2, h3, h4, h5⟩
    exact ⟨.ref s.heap.objs.size, _, hI, rfl, q2⟩
  case room => exact (show X.A.units < cLine by omega)
theorem pssO_cons {X : Cx} {st : Stmt} {rest : List Stmt} {t u : TS} (h1 : PS X st t) (h2 : PSsO X rest u) : PSsO X (st :: rest) (tSeq t u) := ⟨pss_cons h1 h2.out⟩
theorem pssO_consT {X : Cx} {i : Nat} {x : Str} {k v : Expr} {pos pos' spos : Pos} {tk tv : TE} {rest : List Stmt} {u : TS} (hu : X.A.units + 1 < cLine) (hN : X.N.Nodup) (hi : X.N[i]? = some x) (hx : Loc X.env.scope x) (hk : PE X k tk) (hv : PE X v tv) (h2 : PSs X rest u)
    (hf : X.fn x = true ∨ X.env.scope.names.lookup x = some .local := by first | exact .inl rfl | exact .inr rfl | assumption)
    (hsw : swapsWith (.Dict [some k] [v] pos) (some (.Name x pos')) spos.line X.env = pure false := by rfl) :
    PSsO X (.Assign [.Name x pos'] (.Dict [some k] [v] pos) spos :: rest) (tSeq (tAsg (tDispT1 tk tv) (gName i)) u) :=
  ⟨pss_cons (ps_set hN hi hx (pe_dispT1 hu hk hv)) h2⟩
section
variable {σ : St} {H : Hp} {Q : VK} {tk tv : TE}
theorem r_dispT (h : ∀ p, H p = none → tk σ (upd H p (.dT [])) fun x H1 => tv σ H1 fun y H2 => ∃ b ks, x = .ref b ∧ H2 b = some (.tup (ks.map kV)) ∧ H2 p = some (.dT []) ∧ Q (.ref p) (upd H2 p (.dT [(ks, y)]))) : tDispT1 tk tv σ H Q := h
end
end L2
/-! ### a truth in an f-string; the pairs of a dict, walked while the dict is held fast -/
namespace L2
open PySem PySem.Spec PyProof.Rows
/-! the view -/

/-! its iterator, by the dict's bare entries -/

/-! held fast -/
theorem pairedKT {H : Hp} : ∀ {kvs : List (List Key × V)} {xs : List (List Key × Addr × Value)}, KT H kvs xs → (xs.map (·.2.1)).length = kvs.length ∧
    (∀ (i : Nat) b k y, (xs.map (·.2.1))[i]? = some b → kvs[i]? = some (k, y) → H b = some (.tup (k.map kV))) ∧
    (∀ H' : Hp, (∀ (i : Nat) b k y, (xs.map (·.2.1))[i]? = some b → kvs[i]? = some (k, y) → H' b = some (.tup (k.map kV))) → KT H' kvs xs) ∧
    ∀ {f : List Key × Addr × Value → DictEntry}, (∀ x, (f x).key = .ref x.2.1 ∧ (f x).val = x.2.2) → Paired (fun (p : V × V) (e : DictEntry) => RelV p.1 e.key ∧ RelV p.2 e.val) (List.zipWith (fun b (kv : List Key × V) => (V.ref b, kv.2)) (xs.map (·.2.1)) kvs) (xs.map f) := by
  intro kvs xs r
  induction r with
  | nil => exact ⟨rfl, fun i b k y h => by simp at h, fun _ _ => .nil, fun _ => .nil⟩
  | @cons p q ps qs hq t ih =>
    obtain ⟨i1, i2, i3, i4⟩ := ih
    obtain ⟨h1, h2, h3⟩ := hq
    refine ⟨by simpa using i1, fun i b k y e1 e2 => ?_, fun H' hk => .cons ⟨h1, hk 0 q.2.1 p.1 p.2 rfl rfl, h3⟩ (i3 H' fun i b k y e1 e2 => hk (i + 1) b k y (by simpa using e1) (by simpa using e2)), fun hf => ?_⟩
    · cases i with
      | zero =>
        have e1' : q.2.1 = b := by simpa using e1
        have e2' : p = (k, y) := by simpa using e2
        subst e1'; subst e2'; exact h2
      | succ j => exact i2 j b k y (by simpa using e1) (by simpa using e2)
    · refine .cons ⟨?_, ?_⟩ (i4 hf)
      · rw [(hf q).1]; exact rfl
      · rw [(hf q).2]; exact h3


/-! range(n) as a value, list of it -/

end L2
namespace My
end My
/-! ### list comprehensions with one test -/
namespace PySem
open PySem.Spec PyProof.Rows

end PySem
namespace L2
open PySem PySem.Spec PyProof.Rows

end L2
/-! ### try around one call whose value is stored: the names stand as before where it raises -/
namespace L2
open PySem PySem.Spec PyProof.Rows

end L2
/-! ### < of lists of ints; sum of one -/
namespace L2
open PySem PySem.Spec PyProof.Rows
open PySem.AutoSeq1 (wpAny_loadPart')
open PySem.MeetsSeq PySem.MeetsSeq2 PySem.MeetsSeq3 PySem.SeqAt

theorem r_ifE {σ : St} {H : Hp} {Q : VK} {tA : TT} {ta tb : TE} (h : tA σ H fun d H1 => if d = true then ta σ H1 Q else tb σ H1 Q) : tIf tA ta tb σ H Q := h
end L2
namespace My
open PySem L2
end My
namespace My
open PySem L2
end My
namespace My
open PySem L2
/-! two houses behind one another -/
/-! a house with its rooms numbered otherwise -/
end My
/-! ### try with some handlers, each by its class or one above it -/
namespace L2
open PySem PySem.Spec PyProof.Rows
inductive PHs (X : Cx) (n : Str) : List ExceptHandler → (Addr → TS) → Prop where
  | nil : PHs X n [] (fun _ _ _ _ => False)
  | cons {x : Str} {np : Pos} {C1 : Addr} {b₀ : Stmt} {suite : List Stmt} {hpos : Pos} {ts : TS} {rest : List ExceptHandler} {th : Addr → TS} : Gl X x → X.mg x = some (.ref C1) → (x == ("__debug__" : Str)) = false → (∀ (ea : Addr) (pn : List (Addr × Obj)), PSs (suiteX X ea pn) (b₀ :: suite) ts) → PHs X n rest th →
      PHs X n (.ExceptHandler (some (.Name x np)) (some n) (b₀ :: suite) hpos :: rest) (fun C D σ H => (PySem.W.exmOne X.K (.ref C) (.ref C1) = some true ∧ ts D σ H) ∨ (PySem.W.exmOne X.K (.ref C) (.ref C1) = some false ∧ th C D σ H))
def tTryN (k : Nat) (tb : XK → TS) (i : Nat) (th : Addr → TS) : TS := fun D σ H =>
  tb (fun cls _ H' => ∃ C, cls = .ref C ∧ ∀ ea, H' ea = none → th C (suiteEnds i D) ((List.replicate k none).set i (some (.ref ea))) (upd H' ea (.ext (ExcAt ea C)))) D σ H
theorem ps_tryN {X : Cx} {body : List Stmt} {n : Str} {i : Nat} {pos : Pos} {tb : XK → TS} {h0 : ExceptHandler} {hr0 : List ExceptHandler} {th : Addr → TS} (hstk : X.stack = X.env :: X.outer) (hfr : X.env.frame = some X.env.locals)
    (hN : X.N.Nodup) (hi : X.N[i]? = some n) (hl : X.env.scope.names.lookup n = some .local)
    (hb : ∀ (E : XK) (xe : Value → Shared → Prop) (pn : List (Addr × Obj)), Xp (wish2 X xe pn) E → PSs (wish2 X xe pn) body (tb E)) (hh : PHs X n (h0 :: hr0) th) :
    PS X (.Try body (h0 :: hr0) [] [] pos) (tTryN X.N.length tb i th) := by
  intro pins s σ H D I h
  refine wpAny_Try_except (wpAny_mono (hb _ (fun e s₁ => wpAny (model X.prog X.w) X.A (noteFrame e X.env) (fun _ s₂ => wpAny (model X.prog X.w) X.A (setFlight e none) (fun _ s₃ =>
      wpAny (model X.prog X.w) X.A (handleBy e X.env (h0 :: hr0)) (SP X pins D) X.xe s₃) X.xe s₂) X.xe s₁) (X.pn ++ pins) ⟨?pass, PassesOwn.looking⟩ [] s σ H D I.toW h) (fun f s1 q => ?_) fun e s1 q => q)
  case pass =>
    intro pins1 σ1 H1 s1 e s' I1 hx
    obtain ⟨ea, cls, a0, B, H', rfl, ho, hgn, u, hok, fl, dm, tr, hcls⟩ := hx
    obtain ⟨C, rfl, hts⟩ := hcls
    have IX : Inv X pins σ1 H1 s1 := I1.ofW
    have u : Un (frs X.stack) [] H1 H' s1.heap s'.heap := u
    have fl : Heap.FlyingW B X.stack ea (.ref C) a0 s'.heap := fl
    have dm : ∀ b o, s1.heap.get? b = some o → b ∉ frs X.stack → ∃ o', B.get? b = some o' := dm
    have heaH : H' ea = none := by
      cases e : H' ea with
      | none => rfl
      | some w' => obtain ⟨o', z⟩ := tr ea w' e; rw [fl.2.1] at z; cases z
    have hea1 : s1.heap.get? ea = none := by
      cases e : s1.heap.get? ea with
      | none => rfl
      | some w' =>
        exfalso
        by_cases hb : ea ∈ frs X.stack
        · obtain ⟨sl, e1⟩ := u.slot ea w' e (IX.stkFree ea hb) hb (by simp)
          obtain ⟨_, o', e', hdn⟩ := IX.stack.mem hb
          rw [e] at e'; cases e'
          obtain ⟨_, _, _, oe, vs, _, _, _, he, _, hdt, _⟩ := fl
          rw [e1] at he; cases he
          exact hdn vs hdt
        · obtain ⟨o', z⟩ := dm ea w' e hb; rw [fl.2.1] at z; cases z
    have fl0 := fl
    rw [hstk] at fl
    refine wpAny_looks_onW (by rw [← hstk]; exact I.ok.frames) hfr fl fun h4 held sm4 => ?_
    refine wpAny_landsW held fun h5 fl5 sm5 => ?_
    obtain ⟨u5, ok5⟩ := fly_un IX u hok fl0.1 fl5.1 (sm4.trans sm5) dm tr
    have I5 : Inv X pins σ1 H' { s' with heap := h5 } := IX.call' (s' := { s' with heap := h5 }) ho u5 ok5 hgn (fun b hb => by cases hb)
    have J5 : Inv (suiteX X ea (X.pn ++ pins)) [] σ1 H' { s' with heap := h5 } := I5.toS
    obtain ⟨ob, hob, hobc⟩ := fl5.there
    have LT : PySem.W.Looks (model X.prog X.w) h5 (typeOf (.ref ea)) (.ref C) := by
      have z : PySem.W.Looks (model X.prog X.w) h5 (typeOf (.ref ea)) ob.cls := (PySem.W.Looks.ld hob).andThen .now
      rwa [hobc] at z
    have KI : X.K.In h5 := I5.kIn
    have hts0 := hts ea heaH
    clear hts
    have hh0 := hh
    generalize hthe : th = the at hts0 hh0
    clear hthe
    generalize hhse : h0 :: hr0 = hse at hh0 ⊢
    clear hhse
    induction hh0 with
    | nil => exact hts0.elim
    | @cons x np C1 b₀ suite hpos ts rest th2 hg hm hd hs2 hrest ih =>
      rcases hts0 with ⟨hx1, hts1⟩ | ⟨hx1, hts1⟩
      · refine wpAny_handleBy_cons (codeAny_handlers_test (ld_glob J5 hg hm ?_ hd)) (by intro q; cases q)
        refine PySem.W.exm_one KI LT hx1 _ _ _ _ (fun _ _ e => e) ?_
        refine codeAny_handlers_suite_as ?_
        obtain ⟨hp', g', d', t', os'⟩ := s'
        refine lands_againW fl5 fun h6 fl6 sm6 => ?_
        obtain ⟨u6, ok6⟩ := fly_un IX u hok fl0.1 fl6.1 ((sm4.trans sm5).trans sm6) dm tr
        have φ : ExcAt ea C h6 := by
          obtain ⟨_, _, _, oe, vs, _, _, _, he, hcl, hdt, _⟩ := fl6
          exact ⟨oe, vs, he, hcl.1, hdt⟩
        have nea : ∀ b o, s1.heap.get? b = some o → b ≠ ea := fun b o e z => by rw [z, hea1] at e; cases e
        have u7 : Un (frs X.stack) [] H1 (upd H' ea (.ext (ExcAt ea C))) s1.heap h6 :=
          ⟨u6.keep, u6.slot, fun b o e n hx => by rw [upd_ne (nea b o e)]; exact u6.free b o e n hx, u6.there, fun b xs e => by rw [upd_ne (ne_of_none (u6.tups b xs e) heaH)]; exact u6.tups b xs e,
            fun b o xs e => by rw [upd_ne (ne_of_none (u6.frzs b o xs e) heaH)]; exact u6.frzs b o xs e, fun b ps e => by obtain ⟨mr, z⟩ := u6.tbls b ps e; exact ⟨mr, by rw [upd_ne (ne_of_none z heaH)]; exact z⟩⟩
        have ok7 : HOk X.prog X.w (upd H' ea (.ext (ExcAt ea C))) h6 := fun b v e => by
          by_cases hb : b = ea
          · subst hb; rw [upd_same] at e; cases e
            obtain ⟨o, vs, z1, z2, z3⟩ := id φ
            exact ⟨φ, ⟨o, z1⟩, fun h1 h2 ⟨o', vs', y1, y2, y3⟩ k => ⟨o', vs', k o' y1, y2, y3⟩⟩
          · rw [upd_ne hb] at e
            exact (ok6 b v e).stay (fun _ _ _ q => q) (fun c q => by rw [upd_ne (ne_of_none q heaH)]; exact q) fun c xs q => by rw [upd_ne (ne_of_none q heaH)]; exact q
        have I7 : Inv X pins σ1 (upd H' ea (.ext (ExcAt ea C))) ⟨h6, g', d', t', os'⟩ := IX.call' (s' := ⟨h6, g', d', t', os'⟩) ho u7 ok7 hgn (fun b hb => by cases hb)
        have I8 : Inv X pins (List.replicate X.N.length none) (upd H' ea (.ext (ExcAt ea C))) ⟨h6, g', d', t', os'⟩ := I7.weak (by rw [List.length_replicate, I7.len]) fun j v e => by
          rw [List.getElem?_replicate] at e
          split at e <;> cases e
        have J8 : Inv (suiteX X ea (X.pn ++ pins)) [] (List.replicate X.N.length none) (upd H' ea (.ext (ExcAt ea C))) ⟨h6, g', d', t', os'⟩ := I8.toS
        refine store_ok (X := suiteX X ea (X.pn ++ pins)) (v := .ref ea) J8 hN hi (.inl hl) rfl (fun s9 J9 => ?_) (.inr hl)
        refine wpAny_mono (hs2 ea (X.pn ++ pins) [] s9 _ _ _ J9 hts1) (fun f s10 q10 => ?_) (fun _ _ z => z.elim)
        have done : ∀ {σ' : St} {Hn : Hp}, Inv (suiteX X ea (X.pn ++ pins)) [] σ' Hn s10 → (∀ s11, Inv X pins (σ'.set i none) Hn s11 → SP X pins D f s11) → wpAny (model X.prog X.w) X.A (do bindName X.env n .none; unbindBehindTheSuite X.env n hpos) (fun _ s₃ => SP X pins D f s₃) X.xe s10 := fun {σ' Hn} J k => by
          have IJ : Inv X pins σ' Hn s10 := J.ofS I.ok.hd I.ok.frames
          obtain ⟨m, hnm, hlm⟩ := id IJ.loc
          exact wpAny_nameGoes_keeps hl hnm (by rw [I.ok.kind]; rfl) fun h' v hn' hs' => k _ (IJ.goes hN hi hlm hn' hs')
        cases f with
        | next => obtain ⟨σ', Hn, J, q⟩ := q10; exact done J fun s11 I11 => ⟨_, Hn, I11, q⟩
        | brk => obtain ⟨σ', Hn, J, q⟩ := q10; exact done J fun s11 I11 => ⟨_, Hn, I11, q⟩
        | cont => obtain ⟨σ', Hn, J, q⟩ := q10; exact done J fun s11 I11 => ⟨_, Hn, I11, q⟩
        | ret v => obtain ⟨y, σ', Hn, J, r, q⟩ := q10; exact done J fun s11 I11 => ⟨y, _, Hn, I11, r, q⟩
      · refine wpAny_handleBy_cons (codeAny_handlers_test (ld_glob J5 hg hm ?_ hd)) (by intro q; cases q)
        refine PySem.W.exm_one KI LT hx1 _ _ _ _ (fun _ _ e => e) ?_
        exact ih hts1
  · cases f with
    | next => obtain ⟨σ', Hn, J, q⟩ := q; exact wpAny_execs_nil ⟨σ', Hn, J.ofW, q⟩
    | brk => obtain ⟨σ', Hn, J, q⟩ := q; exact ⟨σ', Hn, J.ofW, q⟩
    | cont => obtain ⟨σ', Hn, J, q⟩ := q; exact ⟨σ', Hn, J.ofW, q⟩
    | ret v => obtain ⟨y, σ', Hn, J, r, q⟩ := q; exact ⟨y, σ', Hn, J.ofW, r, q⟩
theorem exm_of {K : PySem.W.Frag} {C C1 : Addr} {b : Bool} (h1 : PySem.W.mroIn K C1 (.type "BaseException") = some true) (c1 : PySem.W.isClsIn K C1 = true) (c2 : PySem.W.typeIn K (.ref C1) = some (.type "type")) (m : PySem.W.mroIn K C (.ref C1) = some b) : PySem.W.exmOne K (.ref C) (.ref C1) = some b := by
  unfold PySem.W.exmOne PySem.W.kitCls
  have z : PySem.W.subIn K (.ref C1) (.type "BaseException") = some true := h1
  rw [z, if_pos (by decide +kernel)]
  dsimp only
  have c1 : (PySem.W.clsIn K C1).isSome = true := c1
  rw [c1, c2, if_pos (by decide +kernel)]
  exact m
theorem r_tryN {k : Nat} {tb : XK → TS} {i : Nat} {th : Addr → TS} {D : Ends} {σ : St} {H : Hp} (h : tb (fun cls _ H' => ∃ C, cls = .ref C ∧ ∀ ea, H' ea = none → th C (suiteEnds i D) ((List.replicate k none).set i (some (.ref ea))) (upd H' ea (.ext (ExcAt ea C)))) D σ H) : tTryN k tb i th D σ H := h
end L2
/-! ### the pairs of a dict whose keys are ints and texts, walked; a loop over pairs -/
namespace L2
open PySem PySem.Spec PyProof.Rows


end L2
namespace My
open PySem L2
end My
namespace L2
open PySem PySem.Spec PyProof.Rows
end L2
/-! ### the least lit word -/
namespace My
open PySem L2
end My
/-! ### texts: join, split, startswith, cut; a loop over two lists at once -/
namespace L2
open PySem PySem.Spec PyProof.Rows
section
variable {X : Cx}
/-! a text from a place on -/
end
section
variable {X : Cx}
theorem zip_apart {n a b : Nat} (ha : a < n) (hb : b < n) : ZipApart (n + 4) (n + 2) (n + 3) n (n + 1) a b := by
  constructor <;> (intro h; (have h' : @Eq Nat _ _ := h); omega)
end

end L2
/-! ### the text of a house -/
namespace My
open PySem L2
end My
/-! ### parts of a list -/
namespace L2
open PySem PySem.Spec PyProof.Rows
end L2
/-! ### what a learner knows, without the heap -/
namespace My

end My
/-! ### the guess of a learner -/
namespace My


end My
/-! ### dicts whose keys are things of the heap, of any kind -/
namespace L2
open PySem PySem.Spec PyProof.Rows

/-! ### in, not in, index: lists of lists -/


/-! ### every n-th item of a list -/



end L2
/-! ### the slow way of a learner -/
namespace My
end My
/-! ### a learner and a house that answers; rooms alike -/
namespace My
/-! the length of a least parting word -/

end My
namespace L2
open PySem PySem.Spec PyProof.Rows
end L2
/-! ### the keys of a dict with tuple keys, walked while the dict stands still -/
namespace L2
open PySem PySem.Spec PyProof.Rows
/-- the iterator over the keys, as it was made -/
def KeyIt (h : Heap) (it d : Addr) (i n ep : Nat) : Prop := h.get? it = some { cls := .type "dict_keyiterator", data := .fields #[.ref d, .int (i : Int) 0, .int (n : Int) 0, .int (ep : Int) 0] }
section
variable {prog : Program} {w : World} {A : Around} {E : Value → Shared → Prop} {s : Shared} {it d : Addr} {i ep : Nat} {es : Array DictEntry} {od : Obj}
theorem key_next {Q : Option Value → Shared → Prop} (hit : KeyIt s.heap it d i es.size ep) (hg : s.heap.get? d = some od) (hdt : od.data = .dict es ep) (hlt : i < es.size)
    (hQ : ∀ h', KeyIt h' it d (i + 1) es.size ep → Heap.SameBut it s.heap h' → Q (some es[i].key) { s with heap := h' }) : wpAny (model prog w) A (pyNext (.ref it)) Q E s := by
  have ty : s.TypeIs (.ref it) "dict_keyiterator" := ⟨_, hit, rfl⟩
  unfold pyNext
  refine wpAny_bind (wpAny_attempt (wpAny_callSpecial?_slot (name := Str.ofString "__next__") ty PySem.F.slot_dict_keyiterator_next (wpAny_call_entry PySem.F.slot_dict_keyiterator_next ty PySem.F.entry_dict_keyiterator_next ?_ (PySem.F.args_dict_keyiterator_next_1 _))))
  refine wpAny_bind (wpAny_pure (wpAny_bind (wpAny_bind ?_)))
  refine wpAny_bind (wpAny_typeNameOfWhole_keyiter ty (wpAny_pure ?_))
  refine wpAny_bind (wpAny_fieldsOf hit rfl ?_)
  simp only [show Builtin.Dict_items.ownsTuple "dict_keyiterator" = false by decide, Bool.false_eq_true, if_false]
  show wpAny _ _ (if (Value.ref d == Value.none) = true then _ else _) _ _ _; rw [if_neg (show ¬ ((Value.ref d == Value.none) = true) by exact Bool.false_ne_true)]
  refine wpAny_bind (wpAny_pure (wpAny_bind (wpAny_dictEntries hg hdt ?_))); rw [if_neg (by simp)]
  refine wpAny_bind (wpAny_pure (wpAny_bind (wpAny_dictEpoch hg hdt ?_))); rw [if_neg (by simp)]; refine wpAny_pure ?_
  simp only [show ¬ ((i : Int) < 0) by omega, if_false, Int.toNat_natCast, Array.getElem?_eq_getElem hlt]; refine wpAny_bind ?_
  refine wpAny_bind (wpAny_typeNameOfWhole_keyiter ty (wpAny_pure ?_))
  refine wpAny_bind (wpAny_isOneOf_keyiter ty ?_)
  show wpAny _ _ (setField (.ref it) 1 (rawInt ((i : Int) + 1)) >>= _) _ _ _
  refine wpAny_bind (wpAny_setField_rec hit (by simp) fun u1 f1 k1 => ?_); replace k1 : Heap.SameBut it s.heap u1 := k1
  replace f1 : KeyIt u1 it d (i + 1) es.size ep := by
    have e : ((i + 1 : Nat) : Int) = (i : Int) + 1 := by omega
    unfold KeyIt; rw [e]; simpa [rawInt] using f1
  have ty1 : Shared.TypeIs { s with heap := u1 } (.ref it) "dict_keyiterator" := ⟨_, f1, rfl⟩
  refine wpAny_bind (wpAny_holding (wpAny_bind (wpAny_isOneOf_keyiter ty1 ?_)))
  exact wpAny_pure (wpAny_pure ⟨_, rfl, wpAny_pure (hQ _ f1 k1)⟩)
theorem key_end {Q : Option Value → Shared → Prop} (hh : A.handled = none) (hit : KeyIt s.heap it d i es.size ep) (hg : s.heap.get? d = some od) (hdt : od.data = .dict es ep) (hge : es.size ≤ i)
    (hQ : ∀ h', Heap.ExtBut it s.heap h' → Q none { s with heap := h' }) : wpAny (model prog w) A (pyNext (.ref it)) Q E s := by
  have ty : s.TypeIs (.ref it) "dict_keyiterator" := ⟨_, hit, rfl⟩
  unfold pyNext
  refine wpAny_bind (wpAny_attempt (wpAny_callSpecial?_slot (name := Str.ofString "__next__") ty PySem.F.slot_dict_keyiterator_next (wpAny_call_entry PySem.F.slot_dict_keyiterator_next ty PySem.F.entry_dict_keyiterator_next ?_ (PySem.F.args_dict_keyiterator_next_1 _))))
  refine wpAny_bind (wpAny_pure (wpAny_bind (wpAny_bind ?_)))
  refine wpAny_bind (wpAny_typeNameOfWhole_keyiter ty (wpAny_pure ?_))
  refine wpAny_bind (wpAny_fieldsOf hit rfl ?_)
  simp only [show Builtin.Dict_items.ownsTuple "dict_keyiterator" = false by decide, Bool.false_eq_true, if_false]
  show wpAny _ _ (if (Value.ref d == Value.none) = true then _ else _) _ _ _; rw [if_neg (show ¬ ((Value.ref d == Value.none) = true) by exact Bool.false_ne_true)]
  refine wpAny_bind (wpAny_pure (wpAny_bind (wpAny_dictEntries hg hdt ?_))); rw [if_neg (by simp)]
  refine wpAny_bind (wpAny_pure (wpAny_bind (wpAny_dictEpoch hg hdt ?_))); rw [if_neg (by simp)]; refine wpAny_pure ?_
  simp only [show ¬ ((i : Int) < 0) by omega, if_false, Int.toNat_natCast, Array.getElem?_eq_none hge]; refine wpAny_bind ?_
  refine wpAny_bind (wpAny_typeNameOfWhole_keyiter ty (wpAny_pure ?_))
  show wpAny _ _ (setField (.ref it) 0 .none >>= _) _ _ s; refine wpAny_bind (wpAny_setField hit rfl (by simp) ?_)
  show wpAny _ _ (newExc (.type "StopIteration") [] >>= _) _ _ _; refine wpAny_bind ?_
  simp only [newExc, newTuple]; refine wpAny_bind (wpAny_newObj_type ?_ (by size_fits))
  refine wpAny_bind (m := firstArgMember _ _) (wpAny_of_eq (a := Value.none) (by first | rfl | (simp only [firstArgMember]; rfl)) (wpAny_newObj_type ?_ (by size_fits)))
  simp only [raiseNew]; refine wpAny_bind (wpAny_handled ?_); rw [show A.in1.handled = none by exact hh]
  refine wpAny_bind (wpAny_pure (wpAny_throw ?_)); refine wpAny_bind (wpAny_isInstance (T := "StopIteration") (b := true) ⟨_, Heap.get?_push_size _ rfl, rfl⟩ isSubtype_stop ?_)
  exact wpAny_pure (hQ _ (((Heap.SameBut.update ..).extBut.push _).push _))
theorem key_iter {Q : Value → Shared → Prop} (ty : s.TypeIs (.ref d) "dict") (hsy : (d == sysModules) = false) (hg : s.heap.get? d = some od) (hdt : od.data = .dict es ep)
    (hQ : Q (.ref s.heap.objs.size) { s with heap := s.heap.push { cls := .type "dict_keyiterator", data := .fields #[.ref d, .int 0 0, .int es.size 0, .int ep 0] } }) : wpAny (model prog w) A (pyIter (.ref d)) Q E s := by
  refine wpAny_pyIter_slot ty PySem.F.slot_dict_iter (wpAny_call_entry PySem.F.slot_dict_iter ty PySem.F.entry_dict_iter ?_ (PySem.F.args_dict_iter_1 _))
  unfold Builtin.«dict.__iter__»; refine wpAny_bind ?_
  unfold Builtin.Dict.dictSlotNone; refine wpAny_bind (wpAny_notOrdered_dict ty ?_)
  refine wpAny_pure ?_
  show wpAny _ _ (Builtin.Dict.showsAll d >>= _) _ _ s
  refine wpAny_bind ?_
  unfold Builtin.Dict.showsAll
  rw [if_neg (by rw [hsy]; decide)]
  refine wpAny_pure (wpAny_bind (wpAny_dictEntries hg hdt (wpAny_bind (wpAny_dictEpoch hg hdt ?_))))
  refine wpAny_bind (wpAny_newObj_type (wpAny_pure ⟨_, rfl, "dict_keyiterator", _, ⟨_, Heap.get?_push_size _ rfl, rfl⟩, PySem.F.slot_dict_keyiterator_next.lookup, ?_⟩) (by
    simp only [sizeOk, List.size_toArray, List.length_cons, List.length_nil, sizeLine_eq]; omega))
  simpa [rawInt] using hQ
end
def Itk (d : Addr) (od : Obj) (kvs : List (List Key × V)) (bs : List Addr) : It :=
  ⟨fun i H => H d = some (.frz od (.dT kvs)) ∧ i < bs.length,
   fun i H x H' => ∃ b, x = .ref b ∧ H' = H ∧ bs[i]? = some b,
   fun i H => H d = some (.frz od (.dT kvs)) ∧ bs.length ≤ i⟩
theorem turn_keys {P : Program} {w : World} {K : PySem.W.Frag} {tg : Expr} {kvs : List (List Key × V)} {bs : List Addr} {es : Array DictEntry} {ep : Nat} {od : Obj} (d it : Addr) (hdt : od.data = .dict es ep) (hl : bs.length = es.size) (hes : ∀ i b, bs[i]? = some b → ∀ h : i < es.size, es[i].key = .ref b) :
    Turn P w K tg (Itk d od kvs bs) [it] it (fun i h => KeyIt h it d i es.size ep) where
  mem := by simp
  obj := fun i h st b hb => by
    have e : b = it := by simpa using hb
    subst e
    exact ⟨_, st, fun v z => by
      have z' : Data.fields _ = Data.cell v := z
      cases z'⟩
  keep := fun i h h' st k => k it (by simp) _ st
  item := by
    intro X hP hw hK hc i pins s σ H E I hf st hg
    subst hP hw hK
    obtain ⟨hd, hi⟩ := hg
    have hod : s.heap.get? d = some od := (show ObjOk X.prog X.w H s.heap d (.frz od (.dT kvs)) from I.hok d _ hd).1
    have hi' : i < es.size := by omega
    obtain ⟨f0, f1, f2, f3, f4, f5⟩ := hf it (by simp)
    refine key_next st hod hdt hi' fun h' st' sb => ?_
    have I1 : Inv X pins σ H { s with heap := h' } := I.turned (t' := s.toks) (fun b o hb e => (sb.2 b hb).trans e) f0 f1 f3 f4 f5
    refine ⟨_, rfl, go_of (s := { s with heap := h' }) st' rfl rfl (by decide) ⟨.ref bs[i], H, I1, ?_, ⟨bs[i], rfl, rfl, List.getElem?_eq_getElem hi⟩, st', fun b hb => (hf b hb).1⟩⟩
    rw [hes i bs[i] (List.getElem?_eq_getElem hi) hi']
    exact rfl
  done := by
    intro X hP hw hK hc i pins s σ H E I hf st hg
    subst hP hw hK
    obtain ⟨hd, hi⟩ := hg
    have hod : s.heap.get? d = some od := (show ObjOk X.prog X.w H s.heap d (.frz od (.dT kvs)) from I.hok d _ hd).1
    obtain ⟨f0, f1, f2, f3, f4, f5⟩ := hf it (by simp)
    exact key_end (I.ok.hd hc) st hod hdt (by omega) fun h' eb => ⟨rfl, I.turned (t' := s.toks) (fun b o hb e => eb b o hb e) f0 f1 f3 f4 f5⟩
  self := fun _ _ _ _ _ st h => wpAny_pyIter_keyiter ⟨_, st, rfl, rfl⟩ h
def iKeysT (tl : TE) : TI := fun σ H R => tl σ H fun x H1 => ∃ d kvs, x = .ref d ∧ H1 d = some (.dT kvs) ∧
  ∀ od bs, bs.length = kvs.length → (∀ (i : Nat) b k y, bs[i]? = some b → kvs[i]? = some (k, y) → H1 b = some (.tup (k.map kV))) → R (Itk d od kvs bs) (upd H1 d (.frz od (.dT kvs)))
section
variable {X : Cx}
theorem pi_keysT {tg : Expr} {l : Expr} {tl : TE} (hl : PE X l tl) : PI X tg l (iKeysT tl) := by
  intro pins s σ H R I h
  refine thn (hl pins s σ H _ I h) fun v s1 ⟨x, H1, I1, r1, q1⟩ => ?_
  obtain ⟨d, kvs, rfl, hd, q⟩ := q1
  cases r1
  have hob := (show ObjOk X.prog X.w H1 s1.heap d (.dT kvs) from I1.hok d _ hd)
  obtain ⟨z, hsy, xs, rel, od, es, ep, h1, h2, h3, h4, h5⟩ := id hob
  obtain ⟨k1, k2, k3, k4⟩ := pairedKT rel
  have ty : s1.TypeIs (.ref d) "dict" := (dt_of I1.hok hd).2.2.elim fun xs q => q.2.typeIs
  have hel : (xs.map (·.2.1)).length = es.size := by rw [List.length_map, ← Array.length_toList, h4, List.length_map]
  have hes : ∀ i b, (xs.map (·.2.1))[i]? = some b → ∀ h : i < es.size, es[i].key = .ref b := fun i b hb h => by
    have e1 : es.toList[i]? = some es[i] := by rw [Array.getElem?_toList]; exact Array.getElem?_eq_getElem h
    rw [h4, List.getElem?_map] at e1
    rw [List.getElem?_map] at hb
    cases hx : xs[i]? with
    | none => rw [hx] at hb; cases hb
    | some y =>
      rw [hx] at hb e1
      have hb' : y.2.1 = b := by simpa using hb
      have e1' : _ = es[i] := Option.some.inj e1
      rw [← e1', ← hb']; rfl
  have hdl : d < s1.heap.objs.size := Heap.lt_size h1
  refine key_iter ty hsy h1 h3 ?_
  generalize e2 : s1.heap.push { cls := .type "dict_keyiterator", data := .fields #[.ref d, .int 0 0, .int es.size 0, .int ep 0] } = h'
  have hk : ∀ b o, s1.heap.get? b = some o → h'.get? b = some o := fun b o e => by rw [← e2]; exact Heap.get?_push_of_some _ e
  have hi' : KeyIt h' s1.heap.objs.size d 0 es.size ep := by rw [← e2]; exact Heap.get?_push_size _ rfl
  have I2 : Inv X pins σ H1 { s1 with heap := h' } := I1.kept (t' := s1.toks) hk
  have I3 : Inv X pins σ (upd H1 d (.frz od (.dT kvs))) { s1 with heap := h', toks := s1.toks } :=
    I2.write (x := d) (e := d) (by rw [hd]; exact True.intro) (.inl rfl) (fun b u _ e => e) ⟨_, hk d _ h1⟩ ⟨hk d _ h1, z, hsy, xs, k3 _ (fun i b k y e1 e2 => by
      have hb := k2 i b k y e1 e2
      rw [upd_ne (ne_of hb hd (fun z => nomatch z))]; exact hb), od, es, ep, hk d _ h1, h2, h3, h4, h5⟩
  refine ⟨s1.heap.objs.size, [s1.heap.objs.size], _, _, _, rfl, I3, turn_keys d s1.heap.objs.size h3 hel hes, hi', fun b hb => ?_, q od (xs.map (·.2.1)) k1 k2⟩
  have hb' := List.mem_singleton.mp hb
  have hf := I1.fpOk (b := s1.heap.objs.size) (Nat.le_refl _) (I1.hok.fresh (Nat.le_refl _))
  rw [hb']
  exact ⟨by rw [upd_ne (Nat.ne_of_gt hdl)]; exact hf.1, hf.2⟩
/-- over the keys of a dict that stands still -/
theorem for_keys {d : Addr} {od : Obj} {kvs : List (List Key × V)} {bs : List Addr} {g : TG} {tb : TS} {D : Ends} {σ : St} {H : Hp} (Pv : Nat → St → Hp → Prop) (h0 : Pv 0 σ H) (hl : ∀ i σ H, i ≤ bs.length → Pv i σ H → H d = some (.frz od (.dT kvs)))
    (hs : ∀ i b σ H, bs[i]? = some b → Pv i σ H → g (.ref b) σ H fun σ2 H2 => tb { D with nx := Pv (i + 1), ct := Pv (i + 1), bk := D.nx } σ2 H2) (hd : ∀ σ H, Pv bs.length σ H → D.nx σ H) :
    ∃ W : Nat → Nat → St → Hp → Prop, (∃ m, W 0 m σ H) ∧ ∀ i m σ H, W i m σ H →
      ((Itk d od kvs bs).stop i H ∧ D.nx σ H) ∨ ((Itk d od kvs bs).go i H ∧ ∃ N : St → Hp → Prop, (∀ σ' H', N σ' H' → ∃ m', m' < m ∧ W (i + 1) m' σ' H') ∧ ∀ x H', (Itk d od kvs bs).yld i H x H' → g x σ H' fun σ2 H2 => tb { D with nx := N, ct := N, bk := D.nx } σ2 H2) := by
  refine ⟨fun i m σ H => m = bs.length - i ∧ i ≤ bs.length ∧ Pv i σ H, ⟨bs.length, by simp, Nat.zero_le _, h0⟩, ?_⟩
  rintro i m σ H ⟨rfl, hi, p⟩
  have q := hl i σ H hi p
  by_cases hlt : i < bs.length
  · refine .inr ⟨⟨q, hlt⟩, Pv (i + 1), fun σ' H' p' => ⟨bs.length - (i + 1), by omega, rfl, hlt, p'⟩, fun x H' y => ?_⟩
    obtain ⟨b, rfl, rfl, e⟩ := y
    exact hs i b σ H' e p
  · have e : i = bs.length := by omega
    subst e
    exact .inl ⟨⟨q, Nat.le_refl _⟩, hd σ H p⟩
end
section
variable {σ : St} {H : Hp} {tl : TE}
theorem r_ikeysT {R : It → Hp → Prop} (h : tl σ H fun x H1 => ∃ d kvs, x = .ref d ∧ H1 d = some (.dT kvs) ∧
  ∀ od bs, bs.length = kvs.length → (∀ (i : Nat) b k y, bs[i]? = some b → kvs[i]? = some (k, y) → H1 b = some (.tup (k.map kV))) → R (Itk d od kvs bs) (upd H1 d (.frz od (.dT kvs)))) : iKeysT tl σ H R := h
end
end L2
/-! ### list(zip(a, b)) -/
namespace L2
open PySem PySem.Spec PyProof.Rows
theorem star_lst {xs : List Expr} {p : Pos} {es : List Expr} {env : PySem.Env} : starEach (.List xs p :: es) env = (false, eval (.List xs p) env) :: starEach es env := by rfl
/-- a zip whose own tuple is out -/
def ZipOut (h : Heap) (z TI TO T : Addr) (fl : Bool) : Prop := h.get? z = some { cls := .type "zip", data := .fields #[rawInt (T : Nat), .bool fl, .bool false, .ref TI, .ref TO] }
section
variable {prog : Program} {w : World} {A : Around} {E : Value → Shared → Prop} {s : Shared} {z TI TO T i1 i2 l1 l2 : Addr} {k1 k2 : Nat} {xs ys : Array Value} {x y : Value} {fl : Bool} {ot : Obj}
theorem alive_of {M : Model} {a : Addr} {o : Obj} {Q : Option Obj → Shared → Prop} (ho : s.heap.get? a = some o) (h : Q (some o) s) : wpAny M A (loadIfAlive a) Q E s := by
  intro Γ p hp
  unfold loadIfAlive
  rw [Sem.wp_loadIfAlive, ho]
  exact h
theorem free_not {Q : Bool → Shared → Prop} (hz : ZipOut s.heap z TI TO T fl) (ha : s.heap.get? T = some ot) (h : ∀ h', ZipOut h' z TI TO T true → Heap.SameBut z s.heap h' → Q false { s with heap := h' }) : wpAny (model prog w) A (Builtin.SmallTypes.ownedTupleIsFree (.ref z)) Q E s := by
  unfold Builtin.SmallTypes.ownedTupleIsFree
  refine wpAny_bind (wpAny_field hz rfl (x := rawInt (T : Nat)) rfl ?_)
  show wpAny _ _ (loadIfAlive (((T : Nat) : Int).toNat) >>= _) _ _ _
  rw [Int.toNat_natCast]
  refine wpAny_bind (alive_of ha ?_)
  show wpAny _ _ (field (.ref z) 1 >>= _) _ _ _
  refine wpAny_bind (wpAny_field hz rfl (x := .bool fl) rfl ?_)
  cases fl with
  | true => exact wpAny_pure (h _ hz ⟨rfl, fun _ _ => rfl⟩)
  | false =>
    show wpAny _ _ (setField (.ref z) 1 (.bool true) >>= _) _ _ _
    refine wpAny_bind (wpAny_setField_rec hz (by simp) fun u f k => ?_)
    exact wpAny_pure (h u f k)
theorem zip_more {Q : Option Value → Shared → Prop} (hz : ZipOut s.heap z TI TO T fl) (ha : s.heap.get? T = some ot) (hTI : IsPair s.heap TI (.ref i1) (.ref i2)) (h1 : s.heap.IsListIter i1 l1 k1) (h2 : s.heap.IsListIter i2 l2 k2) (hl1 : s.heap.IsList l1 xs) (hl2 : s.heap.IsList l2 ys) (hx : xs[k1]? = some x) (hy : ys[k2]? = some y) (D : ZipApart z TI TO i1 i2 l1 l2)
    (hQ : ∀ h', ZipOut h' z TI TO T true → h'.IsListIter i1 l1 (k1 + 1) → h'.IsListIter i2 l2 (k2 + 1) → IsPair h' s.heap.objs.size x y → h'.objs.size = s.heap.objs.size + 1 → (∀ c o, c ≠ z → c ≠ i1 → c ≠ i2 → s.heap.get? c = some o → h'.get? c = some o) → Q (some (.ref s.heap.objs.size)) { s with heap := h' }) : wpAny (model prog w) A (pyNext (.ref z)) Q E s := by
  have hT : s.TypeIs (.ref z) "zip" := ⟨_, hz, rfl⟩
  unfold pyNext
  refine wpAny_bind (wpAny_attempt (wpAny_callSpecial?_slot hT F.slot_zip_next (wpAny_call_entry F.slot_zip_next hT F.entry_zip_next ?_ (F.args_zip_next_1 (.ref z)))))
  unfold Builtin.«zip.__next__»
  refine wpAny_bind (wpAny_pure ?_)
  refine wpAny_bind (wpAny_field hz rfl (x := .bool false) rfl ?_)
  refine wpAny_bind (wpAny_field hz rfl (x := .ref TI) rfl ?_)
  refine wpAny_bind (wpAny_seqItems hTI rfl ?_)
  simp only [show (#[Value.ref i1, Value.ref i2].isEmpty) = false from rfl, Bool.false_eq_true, if_false]
  refine wpAny_bind (free_not hz ha fun u1 hz1 sb1 => ?_)
  simp only [Bool.false_eq_true, if_false]
  rw [← Array.forIn_toList]
  simp only [List.forIn_cons, List.forIn_nil]
  have s1' : Shared.heap { s with heap := u1 } = u1 := rfl
  have g1 : u1.IsListIter i1 l1 k1 := h1.at fun o e => (sb1.2 i1 D.i1z).trans e
  have g2 : u1.IsListIter i2 l2 k2 := h2.at fun o e => (sb1.2 i2 D.i2z).trans e
  have f1 : u1.IsList l1 xs := by obtain ⟨o, e, q⟩ := hl1; exact ⟨o, (sb1.2 l1 D.l1z).trans e, q⟩
  have f2 : u1.IsList l2 ys := by obtain ⟨o, e, q⟩ := hl2; exact ⟨o, (sb1.2 l2 D.l2z).trans e, q⟩
  refine wpAny_bind (wpAny_bind (wpAny_bind (wpAny_holding ?_)))
  show wpAny _ _ (Builtin.SmallTypes.nextOf (.ref i1) >>= fun v => pure (some v)) _ _ _
  refine wpAny_bind (wpAny_nextOf_list_item (s := { s with heap := u1 }) g1 f1 hx fun u2 g1' sb2 => ?_)
  replace sb2 : Heap.SameBut i1 u1 u2 := sb2
  have g2' : u2.IsListIter i2 l2 k2 := g2.at fun o e => (sb2.2 i2 (Ne.symm D.i12)).trans e
  have f2' : u2.IsList l2 ys := by obtain ⟨o, e, q⟩ := f2; exact ⟨o, (sb2.2 l2 D.l2i1).trans e, q⟩
  refine wpAny_pure (wpAny_pure ?_)
  refine wpAny_bind (wpAny_bind (wpAny_holding ?_))
  show wpAny _ _ (Builtin.SmallTypes.nextOf (.ref i2) >>= fun v => pure (some v)) _ _ _
  refine wpAny_bind (wpAny_nextOf_list_item (s := { s with heap := u2 }) g2' f2' hy fun u3 g2'' sb3 => ?_)
  replace sb3 : Heap.SameBut i2 u2 u3 := sb3
  refine wpAny_pure (wpAny_pure (wpAny_pure ?_))
  show wpAny _ _ (newTuple [x, y] >>= fun v => ret v) _ _ _
  refine wpAny_bind (wpAny_newTuple (wpAny_pure ⟨_, rfl, wpAny_pure ?_⟩))
  have z3 : u3.objs.size = s.heap.objs.size := by rw [sb3.1, sb2.1, sb1.1]
  show Q (some (.ref u3.objs.size)) _
  have g1'' : u3.IsListIter i1 l1 (k1 + 1) := g1'.at fun o e => (sb3.2 i1 D.i12).trans e
  have hz3 : ZipOut u3 z TI TO T true := ((sb3.2 z (Ne.symm D.i2z)).trans ((sb2.2 z (Ne.symm D.i1z)).trans hz1))
  rw [z3]
  have pk : ∀ c o, u3.get? c = some o → (u3.push { cls := .type "tuple", data := .seq #[x, y] }).get? c = some o := fun c o e => Heap.get?_push_of_some _ e
  refine hQ _ (pk _ _ hz3) (g1''.at fun o e => pk _ _ e) (g2''.at fun o e => pk _ _ e) ?_ ?_ fun c o c1 c2 c3 e => pk _ _ ?_
  · rw [← z3]; exact Heap.get?_push_size _ rfl
  · rw [Heap.size_push, z3]
  · exact (sb3.2 c c3).trans ((sb2.2 c c2).trans ((sb1.2 c c1).trans e))
theorem zip_over {Q : Option Value → Shared → Prop} (hh : A.handled = none) (hz : ZipOut s.heap z TI TO T fl) (ha : s.heap.get? T = some ot) (hTI : IsPair s.heap TI (.ref i1) (.ref i2)) (h1 : s.heap.IsListIter i1 l1 k1) (hl1 : s.heap.IsList l1 xs) (hx : xs[k1]? = none) (D : ZipApart z TI TO i1 i2 l1 l2)
    (hQ : ∀ h', (∀ c o, c ≠ z → c ≠ i1 → s.heap.get? c = some o → h'.get? c = some o) → Q none { s with heap := h' }) : wpAny (model prog w) A (pyNext (.ref z)) Q E s := by
  have hT : s.TypeIs (.ref z) "zip" := ⟨_, hz, rfl⟩
  unfold pyNext
  refine wpAny_bind (wpAny_attempt (wpAny_callSpecial?_slot hT F.slot_zip_next (wpAny_call_entry F.slot_zip_next hT F.entry_zip_next ?_ (F.args_zip_next_1 (.ref z)))))
  unfold Builtin.«zip.__next__»
  refine wpAny_bind (wpAny_pure ?_)
  refine wpAny_bind (wpAny_field hz rfl (x := .bool false) rfl ?_)
  refine wpAny_bind (wpAny_field hz rfl (x := .ref TI) rfl ?_)
  refine wpAny_bind (wpAny_seqItems hTI rfl ?_)
  simp only [show (#[Value.ref i1, Value.ref i2].isEmpty) = false from rfl, Bool.false_eq_true, if_false]
  refine wpAny_bind (free_not hz ha fun u1 hz1 sb1 => ?_)
  simp only [Bool.false_eq_true, if_false]
  rw [← Array.forIn_toList]
  simp only [List.forIn_cons, List.forIn_nil]
  have g1 : u1.IsListIter i1 l1 k1 := h1.at fun o e => (sb1.2 i1 D.i1z).trans e
  have f1 : u1.IsList l1 xs := by obtain ⟨o, e, q⟩ := hl1; exact ⟨o, (sb1.2 l1 D.l1z).trans e, q⟩
  refine wpAny_bind (wpAny_bind (wpAny_bind (wpAny_holding ?_)))
  show wpAny _ _ (Builtin.SmallTypes.nextOf (.ref i1) >>= fun v => pure (some v)) _ _ _
  refine wpAny_bind (wpAny_nextOf_list_end (s := { s with heap := u1 }) (show A.in1.handled = none from hh) g1 f1 hx fun u2 e eb he => ?_)
  obtain ⟨o, ho, hc⟩ := he
  refine wpAny_bind (wpAny_isInstance (T := "StopIteration") (b := true) ⟨o, ho, hc⟩ isSubtype_stop (wpAny_pure (hQ u2 fun c o c1 c2 e => eb c o c2 ((sb1.2 c c1).trans e))))
theorem zip_hint {Q : Bool → Shared → Prop} (hT : s.TypeIs (.ref z) "zip") (h : Q true s) : wpAny (model prog w) A (Builtin.List.listLengthHint (.ref z)) Q E s := by
  unfold Builtin.List.listLengthHint
  unfold specialOf
  refine wpAny_bind (wpAny_bind (wpAny_typeOf hT ?_))
  have e : typeLookup (Value.type "zip") (Str.ofString "__len__") = pure none := rfl
  rw [e]
  refine wpAny_pure ?_
  show wpAny _ _ ((typeOf (.ref z) >>= fun t => typeLookup t (Str.ofString "__length_hint__")) >>= _) _ _ _
  refine wpAny_bind (wpAny_bind (wpAny_typeOf hT ?_))
  have e2 : typeLookup (Value.type "zip") (Str.ofString "__length_hint__") = pure none := rfl
  rw [e2]
  exact wpAny_pure (wpAny_pure h)
/-- where a zip of two lists stands behind its i-th pair, and the pairs -/
structure ZSt (h : Heap) (TI i1 i2 l1 l2 : Addr) (xs ys : Array Value) (i : Nat) (ts : List Addr) : Prop where
  ti : IsPair h TI (.ref i1) (.ref i2)
  a1 : h.IsListIter i1 l1 i
  a2 : h.IsListIter i2 l2 i
  b1 : h.IsList l1 xs
  b2 : h.IsList l2 ys
  tl : ts.length = i
  tp : ∀ (j : Nat) t x y, ts[j]? = some t → xs[j]? = some x → ys[j]? = some y → IsPair h t x y
theorem zip_loop {R : Result → Shared → Prop} (hh : A.handled = none) (D : ZipApart z TI TO i1 i2 l1 l2) (hsz : ys.size = xs.size) (hn : xs.size ≤ 1000) (S : Addr) (nS : S ∉ [z, TI, TO, i1, i2, l1, l2]) (res : Value) :
    ∀ (k i : Nat) (s : Shared) (ts : List Addr) (c : Nat) (fl : Bool) (T : Addr), xs.size - i = k → i ≤ xs.size → ZSt s.heap TI i1 i2 l1 l2 xs ys i ts → ts[0]? = some T → ZipOut s.heap z TI TO T fl → ts.Nodup → (∀ t ∈ ts, t ∉ [S, z, i1, i2]) → s.heap.get? S = some { cls := .type "list", data := .seq (ts.map Value.ref).toArray c } →
      (∀ (h' : Heap) (ts' : List Addr) (c' : Nat), (∀ b o, b ≠ S → b ≠ z → b ≠ i1 → b ≠ i2 → s.heap.get? b = some o → h'.get? b = some o) → h'.get? S = some { cls := .type "list", data := .seq (ts'.map Value.ref).toArray c' } → ts'.length = xs.size → (∀ (j : Nat) t x y, ts'[j]? = some t → xs[j]? = some x → ys[j]? = some y → IsPair h' t x y) → ts'.Nodup → (∀ t ∈ ts', t ∈ ts ∨ s.heap.objs.size ≤ t) → R (.ok (.ret res)) { s with heap := h' }) →
      codeAny (model prog w) A (Code.builtin "list.extend.loop" { pos := [.ref S, .ref z, res] }) R s := by
  simp only [List.mem_cons, List.not_mem_nil, or_false, not_or] at nS
  obtain ⟨Sz, STI, STO, Si1, Si2, Sl1, Sl2⟩ := nS
  intro k
  induction k with
  | zero =>
    intro i s ts c fl T hk hi Z h0 hz nd hts hS hR
    have hi' : i = xs.size := by omega
    have hal : ∃ o, s.heap.get? T = some o := by
      have h1 : 0 < ts.length := (List.getElem?_eq_some_iff.mp h0).1
      have h2 : 0 < xs.size := by have := Z.tl; omega
      have h3 : 0 < ys.size := by omega
      exact ⟨_, Z.tp 0 T xs[0] ys[0] h0 (Array.getElem?_eq_getElem h2) (Array.getElem?_eq_getElem h3)⟩
    obtain ⟨oT, hT⟩ := hal
    refine codeAny_builtin F.entry_extend_loop ?_
    rw [Around.under_plainId F.plain_extend_loop]
    refine wpAny_bind (zip_over (A := A.in1) hh hz hT Z.ti Z.a1 Z.b1 (by rw [hi']; simp) D fun h' kp => ?_)
    refine wpAny_pure ?_
    exact hR h' ts c (fun b o _ b2 b3 _ e => kp b o b2 b3 e) (kp _ _ Sz Si1 hS) (by rw [Z.tl, hi']) (fun j t x y e1 e2 e3 => kp _ _ (fun q => hts t (List.mem_of_getElem? e1) (by simp [q])) (fun q => hts t (List.mem_of_getElem? e1) (by simp [q])) (Z.tp j t x y e1 e2 e3)) nd (fun t ht => .inl ht)
  | succ k ih =>
    intro i s ts c fl T hk hi Z h0 hz nd hts hS hR
    have hlt : i < xs.size := by omega
    have hlt2 : i < ys.size := by omega
    have hal : ∃ o, s.heap.get? T = some o := by
      have h1 : 0 < ts.length := (List.getElem?_eq_some_iff.mp h0).1
      exact ⟨_, Z.tp 0 T xs[0] ys[0] h0 (Array.getElem?_eq_getElem (by omega)) (Array.getElem?_eq_getElem (by omega))⟩
    obtain ⟨oT, hT⟩ := hal
    refine codeAny_builtin F.entry_extend_loop ?_
    rw [Around.under_plainId F.plain_extend_loop]
    refine wpAny_bind (zip_more (A := A.in1) hz hT Z.ti Z.a1 Z.a2 Z.b1 Z.b2 (Array.getElem?_eq_getElem hlt) (Array.getElem?_eq_getElem hlt2) D fun h1 z1 c1 c2 pr hsize kp => ?_)
    have lt : ∀ b o, s.heap.get? b = some o → b < s.heap.objs.size := fun b o e => Heap.lt_size e
    have hS1 : h1.get? S = some { cls := .type "list", data := .seq (ts.map Value.ref).toArray c } := kp _ _ Sz Si1 Si2 hS
    have nT : s.heap.objs.size ≠ S := Nat.ne_of_gt (lt _ _ hS)
    show wpAny _ _ (updateSeq S (fun x => x.push (.ref s.heap.objs.size)) >>= _) _ _ _
    refine wpAny_bind (wpAny_updateSeq (s := { s with heap := h1 }) hS1 rfl ?_ (by simp only [List.size_toArray, List.length_map]; rw [Z.tl, sizeLine_eq]; omega) (by simp only [Array.size_push, List.size_toArray, List.length_map]; rw [Z.tl, sizeLine_eq]; omega))
    refine wpAny_pure ⟨plainId_quiet F.plain_extend_loop _, ?_⟩
    have sb : ∀ b, b ≠ S → (h1.update S (Obj.mapSeq fun x => x.push (.ref s.heap.objs.size))).get? b = h1.get? b := fun b hb => Heap.get?_update_other h1 _ (Ne.symm hb)
    have kall : ∀ b o, b ≠ S → b ≠ z → b ≠ i1 → b ≠ i2 → s.heap.get? b = some o → (h1.update S (Obj.mapSeq fun x => x.push (.ref s.heap.objs.size))).get? b = some o := fun b o b0 b1 b2 b3 e => (sb b b0).trans (kp b o b1 b2 b3 e)
    have sz2 : (h1.update S (Obj.mapSeq fun x => x.push (.ref s.heap.objs.size))).objs.size = s.heap.objs.size + 1 := by
      rw [← hsize]; exact (Heap.SameBut.update h1 S _).1
    have fresh : s.heap.objs.size ∉ [S, z, i1, i2] := by
      simp only [List.mem_cons, List.not_mem_nil, or_false, not_or]
      obtain ⟨o1, e1, _⟩ := Z.a1
      obtain ⟨o2, e2, _⟩ := Z.a2
      exact ⟨nT, Nat.ne_of_gt (lt _ _ hz), Nat.ne_of_gt (lt _ _ e1), Nat.ne_of_gt (lt _ _ e2)⟩
    have hup := Heap.get?_update_self (Obj.mapSeq fun x => x.push (.ref s.heap.objs.size)) hS1 rfl
    refine ih (i + 1) { s with heap := h1.update S (Obj.mapSeq fun x => x.push (.ref s.heap.objs.size)) } (ts ++ [s.heap.objs.size]) (c + 1) true T (by omega) (by omega) ⟨kall _ _ (Ne.symm STI) D.TIz D.TIi1 D.TIi2 Z.ti, c1.at fun o e => (sb _ (Ne.symm Si1)).trans e, c2.at fun o e => (sb _ (Ne.symm Si2)).trans e, ?_, ?_, by simp [Z.tl], fun j t x y e1 e2 e3 => ?_⟩ ?_ ((sb _ (Ne.symm Sz)).trans z1) (nd_snoc nd fun hm => ?_) (fun t ht => ?_) ?_ (fun h' ts' c' k' hS' hl' hp' nd' hn' => ?_)
    · obtain ⟨o, e, q⟩ := Z.b1; exact ⟨o, kall _ _ (Ne.symm Sl1) D.l1z D.l1i1 D.l1i2 e, q⟩
    · obtain ⟨o, e, q⟩ := Z.b2; exact ⟨o, kall _ _ (Ne.symm Sl2) D.l2z D.l2i1 D.l2i2 e, q⟩
    · by_cases hj : j < ts.length
      · rw [List.getElem?_append_left hj] at e1
        have m := hts t (List.mem_of_getElem? e1)
        simp only [List.mem_cons, List.not_mem_nil, or_false, not_or] at m
        exact kall _ _ m.1 m.2.1 m.2.2.1 m.2.2.2 (Z.tp j t x y e1 e2 e3)
      · have hl := (List.getElem?_eq_some_iff.mp e1).1
        rw [List.length_append, List.length_singleton] at hl
        have hj2 : j = ts.length := by omega
        rw [hj2, List.getElem?_append_right (Nat.le_refl _), Nat.sub_self] at e1
        cases e1
        rw [hj2, Z.tl, Array.getElem?_eq_getElem hlt] at e2
        rw [hj2, Z.tl, Array.getElem?_eq_getElem hlt2] at e3
        cases e2; cases e3
        exact (sb _ nT).trans pr
    · rw [List.getElem?_append_left (List.getElem?_eq_some_iff.mp h0).1]; exact h0
    · obtain ⟨j, hj⟩ := List.getElem?_of_mem hm
      have hl := (List.getElem?_eq_some_iff.mp hj).1
      have hl2 := Z.tl
      exact Nat.lt_irrefl _ (lt _ _ (Z.tp j _ xs[j] ys[j] hj (Array.getElem?_eq_getElem (by omega)) (Array.getElem?_eq_getElem (by omega))))
    · rcases List.mem_append.mp ht with h | h
      · exact hts t h
      · rw [List.mem_singleton.mp h]; exact fresh
    · refine hup.trans ?_
      simp [Obj.mapSeq]
    · refine hR h' ts' c' (fun b o b0 b1 b2 b3 e => k' b o b0 b1 b2 b3 (kall b o b0 b1 b2 b3 e)) hS' hl' hp' nd' fun t ht => ?_
      rcases hn' t ht with h | h
      · rcases List.mem_append.mp h with h | h
        · exact .inl h
        · rw [List.mem_singleton.mp h]; exact .inr (Nat.le_refl _)
      · refine .inr ?_
        have h : (h1.update S (Obj.mapSeq fun x => x.push (.ref s.heap.objs.size))).objs.size ≤ t := h
        omega
theorem zip_list {Q : Value → Shared → Prop} (hh : A.handled = none) (D : ZipApart z TI TO i1 i2 l1 l2) (hz : IsZip s.heap z TI TO .none) (hTI : IsPair s.heap TI (.ref i1) (.ref i2)) (hTO : ∃ a b, IsPair s.heap TO a b) (h1 : s.heap.IsListIter i1 l1 0) (h2 : s.heap.IsListIter i2 l2 0) (hl1 : s.heap.IsList l1 xs) (hl2 : s.heap.IsList l2 ys) (hsz : ys.size = xs.size) (hn : xs.size ≤ 1000) (h0 : 0 < xs.size)
    (hQ : ∀ (h' : Heap) (ts : List Addr) (c : Nat), (∀ b o, b ≠ z → b ≠ TO → b ≠ i1 → b ≠ i2 → s.heap.get? b = some o → h'.get? b = some o) → h'.get? s.heap.objs.size = some { cls := .type "list", data := .seq (ts.map Value.ref).toArray c } → ts.length = xs.size → (∀ (j : Nat) t x y, ts[j]? = some t → xs[j]? = some x → ys[j]? = some y → IsPair h' t x y) → ts.Nodup → (∀ t ∈ ts, s.heap.objs.size < t) → Q (.ref s.heap.objs.size) { s with heap := h' }) :
    wpAny (model prog w) A (call (.type "list") [.ref z]) Q E s := by
  refine callType_codes (Q₁ := fun obj s1 => obj = .ref s.heap.objs.size ∧ s1 = { s with heap := s.heap.push { cls := .type "list", data := .seq #[] } }) F.called_list (F.typeCall_list_1 (.ref z)) F.entry_list_init (code_list_new (.ref z) ⟨rfl, rfl⟩) ?_
  rintro obj s1 ⟨rfl, rfl⟩
  have hS := Heap.get?_push_size s.heap (o := { cls := .type "list", data := .seq #[] }) rfl
  refine ⟨⟨_, hS, rfl⟩, F.args_list_init_2 _ _, ?_⟩
  have lt : ∀ b o, s.heap.get? b = some o → b < s.heap.objs.size := fun b o e => Heap.lt_size e
  have pk : ∀ b o, s.heap.get? b = some o → (s.heap.push { cls := .type "list", data := .seq #[] }).get? b = some o := fun b o e => Heap.get?_push_of_some _ e
  generalize e1 : s.heap.push { cls := .type "list", data := .seq #[] } = u0 at hS pk
  have sz0 : u0.objs.size = s.heap.objs.size + 1 := by rw [← e1, Heap.size_push]
  show wpAny _ _ (do let old ← Builtin.List.listItems (.ref s.heap.objs.size); Builtin.List.listUpdate (.ref s.heap.objs.size) (fun x => #[]); letGo old.toList.reverse; Builtin.List.listExtendWith (.ref s.heap.objs.size) (.ref z) .none) _ _ _
  have hT0 : Shared.TypeIs { s with heap := u0 } (.ref z) "zip" := ⟨_, pk _ _ hz, rfl⟩
  refine wpAny_bind (wpAny_bind (wpAny_seqItems (s := { s with heap := u0 }) hS rfl (wpAny_pure ?_)))
  refine wpAny_bind (wpAny_updateSeq (s := { s with heap := u0 }) hS rfl ?_ (by simp [sizeLine_eq]) (by simp [sizeLine_eq]))
  have hS1 := Heap.get?_update_self (Obj.mapSeq fun x => #[]) hS rfl
  have sb1 := Heap.SameBut.update u0 s.heap.objs.size (Obj.mapSeq fun x => #[])
  generalize u0.update s.heap.objs.size (Obj.mapSeq fun x => #[]) = u1 at hS1 sb1
  refine wpAny_bind (wpAny_letGo ?_)
  have zn : z ≠ s.heap.objs.size := Nat.ne_of_lt (lt _ _ hz)
  have hz1 : IsZip u1 z TI TO .none := (sb1.2 z zn).trans (pk _ _ hz)
  have hT1 : Shared.TypeIs { s with heap := u1 } (.ref z) "zip" := ⟨_, hz1, rfl⟩
  unfold Builtin.List.listExtendWith
  refine wpAny_bind (wpAny_typeOf hT1 ?_)
  have nsr : (Builtin.List.listSameRef (.ref s.heap.objs.size) (.ref z) || Value.type "zip" == Value.type "list" || Value.type "zip" == Value.type "tuple") = false := by
    have e : Builtin.List.listSameRef (.ref s.heap.objs.size) (.ref z) = false := by
      show (s.heap.objs.size == z) = false
      exact beq_eq_false_iff_ne.mpr (Ne.symm zn)
    rw [e]; rfl
  simp only [nsr, Bool.false_eq_true, if_false]
  refine wpAny_bind (wpAny_pyIter_zip (s := { s with heap := u1 }) hz1 ?_)
  refine wpAny_bind (wpAny_holding (zip_hint hT1 ?_))
  simp only [Bool.true_or, if_true]
  refine wpAny_bind (wpAny_rule ?_)
  unfold Builtin.List.listTouch
  refine wpAny_bind (wpAny_bind (wpAny_updateSeq (s := { s with heap := u1 }) hS1 rfl ?_ (by simp [sizeLine_eq]) (by simp [sizeLine_eq])))
  have hS2 := Heap.get?_update_self (Obj.mapSeq fun x => x.push Value.none) hS1 rfl
  have sb2 := Heap.SameBut.update u1 s.heap.objs.size (Obj.mapSeq fun x => x.push Value.none)
  generalize u1.update s.heap.objs.size (Obj.mapSeq fun x => x.push Value.none) = u2 at hS2 sb2
  refine wpAny_updateSeq (s := { s with heap := u2 }) hS2 rfl ?_ (by simp [sizeLine_eq]) (by simp [sizeLine_eq])
  have hS3 := Heap.get?_update_self (Obj.mapSeq fun x => x.pop) hS2 rfl
  have sb3 := Heap.SameBut.update u2 s.heap.objs.size (Obj.mapSeq fun x => x.pop)
  generalize u2.update s.heap.objs.size (Obj.mapSeq fun x => x.pop) = u3 at hS3 sb3
  obtain ⟨c3, hS3⟩ : ∃ c, u3.get? s.heap.objs.size = some { cls := .type "list", data := .seq #[] c } := ⟨_, hS3⟩
  refine wpAny_pure ⟨plainId_quiet F.plain_extend_loop _, ?_⟩
  have kp3 : ∀ b o, s.heap.get? b = some o → u3.get? b = some o := fun b o e => by
    have hb : b ≠ s.heap.objs.size := Nat.ne_of_lt (lt _ _ e)
    rw [sb3.2 b hb, sb2.2 b hb, sb1.2 b hb]; exact pk b o e
  have sz3 : u3.objs.size = s.heap.objs.size + 1 := by rw [sb3.1, sb2.1, sb1.1, sz0]
  clear hS hS1 hS2 sb1 sb2 sb3 pk sz0 e1 hz1 hT1 hT0 nsr
  obtain ⟨a0, b0, hTO⟩ := hTO
  refine codeAny_builtin F.entry_extend_loop ?_
  rw [Around.under_plainId F.plain_extend_loop]
  have hx0 := Array.getElem?_eq_getElem h0
  have hy0 : ys[0]? = some (ys[0]'(by omega)) := Array.getElem?_eq_getElem (by omega)
  refine wpAny_bind (wpAny_pyNext_zip_item (s := { s with heap := u3 }) D (kp3 _ _ hz) (kp3 _ _ hTI) (kp3 _ _ hTO) (h1.at fun o e => kp3 _ _ e) (h2.at fun o e => kp3 _ _ e) (by obtain ⟨o, e, q⟩ := hl1; exact ⟨o, kp3 _ _ e, q⟩) (by obtain ⟨o, e, q⟩ := hl2; exact ⟨o, kp3 _ _ e, q⟩) hx0 hy0 fun u4 g1 g2 g3 g4 g5 g6 g7 => ?_)
  replace g1 : ZipOut u4 z TI TO u3.objs.size false := g1
  replace g5 : IsPair u4 u3.objs.size xs[0] (ys[0]'(by omega)) := g5
  replace g6 : u4.objs.size = u3.objs.size + 1 := g6
  replace g7 : ∀ c o, c ≠ z → c ≠ TO → c ≠ i1 → c ≠ i2 → u3.get? c = some o → u4.get? c = some o := g7
  obtain ⟨oi1, ei1, qi1⟩ := h1
  obtain ⟨oi2, ei2, qi2⟩ := h2
  obtain ⟨ol1, el1, ql1⟩ := hl1
  obtain ⟨ol2, el2, ql2⟩ := hl2
  have n1 := Nat.ne_of_gt (lt _ _ hz)
  have n2 := Nat.ne_of_gt (lt _ _ hTI)
  have n3 := Nat.ne_of_gt (lt _ _ hTO)
  have n4 := Nat.ne_of_gt (lt _ _ ei1)
  have n5 := Nat.ne_of_gt (lt _ _ ei2)
  have n6 := Nat.ne_of_gt (lt _ _ el1)
  have n7 := Nat.ne_of_gt (lt _ _ el2)
  have m1 := lt _ _ hz
  have m4 := lt _ _ ei1
  have m5 := lt _ _ ei2
  have q0 : u3.objs.size ≠ s.heap.objs.size := by rw [sz3]; exact Nat.succ_ne_self _
  have q1 : u3.objs.size ≠ z := Nat.ne_of_gt (by rw [sz3]; exact Nat.lt_succ_of_lt m1)
  have q4 : u3.objs.size ≠ i1 := Nat.ne_of_gt (by rw [sz3]; exact Nat.lt_succ_of_lt m4)
  have q5 : u3.objs.size ≠ i2 := Nat.ne_of_gt (by rw [sz3]; exact Nat.lt_succ_of_lt m5)
  have hS4 : u4.get? s.heap.objs.size = some { cls := .type "list", data := .seq #[] c3 } := g7 _ _ n1 n3 n4 n5 hS3
  show wpAny _ _ (updateSeq s.heap.objs.size (fun x => x.push (.ref u3.objs.size)) >>= _) _ _ _
  refine wpAny_bind (wpAny_updateSeq (s := { s with heap := u4 }) hS4 rfl ?_ (by simp [sizeLine_eq]) (by simp [sizeLine_eq]))
  refine wpAny_pure ⟨plainId_quiet F.plain_extend_loop _, ?_⟩
  have hup := Heap.get?_update_self (Obj.mapSeq fun x => x.push (.ref u3.objs.size)) hS4 rfl
  have sb := Heap.SameBut.update u4 s.heap.objs.size (Obj.mapSeq fun x => x.push (.ref u3.objs.size))
  generalize u4.update s.heap.objs.size (Obj.mapSeq fun x => x.push (.ref u3.objs.size)) = u5 at hup sb
  have kp5 : ∀ b o, b ≠ s.heap.objs.size → b ≠ z → b ≠ TO → b ≠ i1 → b ≠ i2 → u3.get? b = some o → u5.get? b = some o := fun b o b0 b1 b2 b3 b4 e => (sb.2 b b0).trans (g7 b o b1 b2 b3 b4 e)
  refine zip_loop (A := A.in1) hh D hsz hn s.heap.objs.size (by simp [n1, n2, n3, n4, n5, n6, n7]) .none (xs.size - 1) 1 { s with heap := u5 } [u3.objs.size] _ false u3.objs.size (by omega) (by omega) ⟨kp5 _ _ (Ne.symm n2) D.TIz D.TITO D.TIi1 D.TIi2 (kp3 _ _ hTI), g3.at fun o e => (sb.2 _ (Ne.symm n4)).trans e, g4.at fun o e => (sb.2 _ (Ne.symm n5)).trans e, ⟨ol1, kp5 _ _ (Ne.symm n6) D.l1z D.l1TO D.l1i1 D.l1i2 (kp3 _ _ el1), ql1⟩, ⟨ol2, kp5 _ _ (Ne.symm n7) D.l2z D.l2TO D.l2i1 D.l2i2 (kp3 _ _ el2), ql2⟩, rfl, fun j t x y e1 e2 e3 => ?_⟩ rfl ((sb.2 _ (Ne.symm n1)).trans g1) (by simp) (fun t ht => ?_) hup (fun h' ts c' k' hS' hl' hp' nd' hn' => ?_)
  · cases j with
    | zero =>
      simp at e1
      subst e1
      rw [hx0] at e2
      rw [hy0] at e3
      cases e2; cases e3
      exact (sb.2 _ q0).trans g5
    | succ j => simp at e1
  · rw [List.mem_singleton.mp ht]
    simp only [List.mem_cons, List.not_mem_nil, or_false, not_or]
    exact ⟨q0, q1, q4, q5⟩
  · refine ⟨rfl, hQ h' ts c' (fun b o b1 b2 b3 b4 e => k' b o (Nat.ne_of_lt (lt _ _ e)) b1 b3 b4 (kp5 b o (Nat.ne_of_lt (lt _ _ e)) b1 b2 b3 b4 (kp3 b o e))) hS' hl' hp' nd' fun t ht => ?_⟩
    rcases hn' t ht with h | h
    · rw [List.mem_singleton.mp h, sz3]; exact Nat.lt_succ_self _
    · have h : u5.objs.size ≤ t := h
      rw [sb.1, g6, sz3] at h
      exact Nat.lt_of_lt_of_le (Nat.lt_succ_of_lt (Nat.lt_succ_self _)) h
end
section
variable {X : Cx}
theorem refs_vals : ∀ ts : List Addr, Vals (ts.map V.ref) (ts.map Value.ref)
  | [] => .nil
  | _ :: r => .cons rfl (refs_vals r)
/-- many new objects at once -/
theorem Inv.more {pins : List (Addr × Obj)} {σ : St} {H H2 : Hp} {s : Shared} {h' : Heap} {t' : Nat} (I : Inv X pins σ H s) (k : ∀ b u, s.heap.get? b = some u → h'.get? b = some u) (sm : Same H H2) (nw : ∀ b o, H2 b = some o → H b = some o ∨ (s.heap.objs.size ≤ b ∧ ObjOk X.prog X.w H2 h' b o)) : Inv X pins σ H2 { s with heap := h', toks := t' } := by
  refine I.un ⟨fun b u q _ _ _ => k b u q, fun b u q _ _ _ => ⟨u.slots, k b u q⟩, fun b u q n _ => ?_, fun b u q _ => ⟨u, k b u q⟩, fun b xs q => sm _ _ q, fun b o u q => sm _ _ q, fun b ps q => ⟨#[], by rw [sm _ _ q]; simp⟩⟩ fun b o e => ?_
  · cases e : H2 b with
    | none => rfl
    | some o =>
      rcases nw b o e with h | ⟨h, _⟩
      · rw [n] at h; cases h
      · exact absurd (Heap.lt_size q) (Nat.not_lt_of_le h)
  · rcases nw b o e with h | ⟨_, h⟩
    · exact (I.hok b o h).stay (fun c v _ q => k c v q) (fun c q => sm _ _ q) fun c xs q => sm _ _ q
    · exact h
def tListZip (K : PySem.W.Frag) (ta : TA) : TE := fun σ H Q => ta σ H fun vs H1 => ∃ (a b : Addr) (xs ys : List V), vs = [.ref a, .ref b] ∧ SqL K H1 a xs ∧ SqL K H1 b ys ∧ ys.length = xs.length ∧ 0 < xs.length ∧ xs.length ≤ 1000 ∧
  ∀ (l : Addr) (ts : List Addr) (H2 : Hp), Same H1 H2 → H1 l = none → H2 l = some (.lst (ts.map V.ref)) → ts.length = xs.length → l ∉ ts → ts.Nodup → (∀ t ∈ ts, H1 t = none) → (∀ (j : Nat) t x y, ts[j]? = some t → xs[j]? = some x → ys[j]? = some y → H2 t = some (.tup [x, y])) → Q (.ref l) H2
theorem r_listzip {K : PySem.W.Frag} {ta : TA} {σ : St} {H : Hp} {Q : VK} (h : ta σ H fun vs H1 => ∃ (a b : Addr) (xs ys : List V), vs = [.ref a, .ref b] ∧ SqL K H1 a xs ∧ SqL K H1 b ys ∧ ys.length = xs.length ∧ 0 < xs.length ∧ xs.length ≤ 1000 ∧
  ∀ (l : Addr) (ts : List Addr) (H2 : Hp), Same H1 H2 → H1 l = none → H2 l = some (.lst (ts.map V.ref)) → ts.length = xs.length → l ∉ ts → ts.Nodup → (∀ t ∈ ts, H1 t = none) → (∀ (j : Nat) t x y, ts[j]? = some t → xs[j]? = some x → ys[j]? = some y → H2 t = some (.tup [x, y])) → Q (.ref l) H2) : tListZip K ta σ H Q := h
theorem pe_listzip (K : PySem.W.Frag) {l1 l2 : Expr} {ta : TA} {p1 p2 pos1 pos2 : Pos} (hc : X.calm = true) (hg1 : Gl X "list") (hm1 : X.mg "list" = none) (hg2 : Gl X "zip") (hm2 : X.mg "zip" = none) (ha : PA X [l1, l2] ta)
    (hs : starEach [l1, l2] X.env = (false, eval l1 X.env) :: starEach [l2] X.env := by rfl) (hs2 : ((backTo pos2 (starEach [l2] X.env)).any fun x => x.fst) = false := by rfl)
    (he : starEach [.Call (.Name "zip" p2) [l1, l2] [] pos2] X.env = (false, eval (.Call (.Name "zip" p2) [l1, l2] [] pos2) X.env) :: starEach [] X.env := by rfl) (hpl : (backTo pos1 (starEach [] X.env)).any (·.1) = false := by rfl) (hK : X.K = K := by rfl) :
    PE X (.Call (.Name "list" p1) [.Call (.Name "zip" p2) [l1, l2] [] pos2] [] pos1) (tListZip K ta) := by
  subst hK
  intro pins s σ H Q I h
  refine wpAny_Call_Name_kw (ld_blt I hg1 hm1 boot_list ?_ (by decide) (by decide))
  refine PyProof.Rows.callWith_type1 ?_ he hpl
  rw [he]
  show wpAny _ _ (spliced ((false, eval (.Call (.Name "zip" p2) [l1, l2] [] pos2) X.env) :: backTo pos1 (starEach [] X.env))) _ _ s
  refine Calls.spliced_cons ?_
  refine Call_ (ld_blt I hg2 hm2 boot_zip (PyProof.Rows.callWith_type1 (thn (ha pos2 pins s σ H _ I h) fun us s1 ⟨vs, H1, I1, r1, q1⟩ => ?_) hs hs2))
  obtain ⟨a, b, xs, ys, e, hqa, hqb, hyx, hx0, hx1, q⟩ := q1
  subst e
  cases r1 with
  | cons ra rr =>
    cases rr with
    | cons rb rr =>
      cases rr
      cases ra
      cases rb
      obtain ⟨ia, rva, pa, hza⟩ := I1.list hqa
      obtain ⟨ib, rvb, pb, hzb⟩ := I1.list hqb
      have hal : a < s1.heap.objs.size := by obtain ⟨o, q, _⟩ := id pa.isList; exact Heap.lt_size q
      have hbl : b < s1.heap.objs.size := by obtain ⟨o, q, _⟩ := id pb.isList; exact Heap.lt_size q
      have hia : ia.length = xs.length := rva.length.symm
      have hib : ib.length = ys.length := rvb.length.symm
      refine call_zip_2 pa.isList pb.isList fun h' z1 t1 o1 i1 i2 hsz hk => ?_
      refine Calls.spliced_nil ?_
      have ap : ZipApart (s1.heap.objs.size + 4) (s1.heap.objs.size + 2) (s1.heap.objs.size + 3) s1.heap.objs.size (s1.heap.objs.size + 1) a b := zip_apart hal hbl
      have ka : h'.IsList a ia.toArray := by obtain ⟨o, e, q⟩ := id pa.isList; exact ⟨o, hk _ _ e, q⟩
      have kb : h'.IsList b ib.toArray := by obtain ⟨o, e, q⟩ := id pb.isList; exact ⟨o, hk _ _ e, q⟩
      refine zip_list (s := { s1 with heap := h' }) (I1.ok.hd hc) ap z1 t1 ⟨_, _, o1⟩ i1 i2 ka kb (by simp; omega) (by simp; omega) (by simp; omega) fun h2 ts c kp hl hlen hpr nd hgt => ?_
      replace hl : h2.get? h'.objs.size = some { cls := .type "list", data := .seq (ts.map Value.ref).toArray c } := hl
      replace hgt : ∀ t ∈ ts, h'.objs.size < t := hgt
      replace hlen : ts.length = xs.length := by rw [hlen]; simp [hia]
      have k12 : ∀ b u, s1.heap.get? b = some u → h2.get? b = some u := fun b u e => by
        have hb := Heap.lt_size e
        have hb' : ∀ k, b ≠ s1.heap.objs.size + k := fun k => Nat.ne_of_lt (Nat.lt_of_lt_of_le hb (Nat.le_add_right _ _))
        exact kp b u (hb' 4) (hb' 3) (Nat.ne_of_lt hb) (hb' 1) (hk b u e)
      have hbig : s1.heap.objs.size ≤ h'.objs.size := by rw [hsz]; omega
      have nl : h'.objs.size ∉ ts := fun z => Nat.lt_irrefl _ (hgt _ z)
      let H2 : Hp := fun b => if b = h'.objs.size then some (.lst (ts.map V.ref)) else if b ∈ ts then some (.tup [(xs.getD (ts.idxOf b) .non), (ys.getD (ts.idxOf b) .non)]) else H1 b
      have fr : ∀ b, s1.heap.objs.size ≤ b → H1 b = none := fun b hb => I1.hok.fresh hb
      have frt : ∀ t ∈ ts, H1 t = none := fun t ht => fr t (by have := hgt t ht; omega)
      have e1 : H2 h'.objs.size = some (.lst (ts.map V.ref)) := if_pos rfl
      have sm : Same H1 H2 := fun b o e => by
        have b1 : b ≠ h'.objs.size := fun z => by rw [z, fr _ hbig] at e; cases e
        have b2 : b ∉ ts := fun z => by rw [frt b z] at e; cases e
        show (if b = h'.objs.size then _ else if b ∈ ts then _ else H1 b) = _
        rw [if_neg b1, if_neg b2]; exact e
      have et : ∀ (j : Nat) t x y, ts[j]? = some t → xs[j]? = some x → ys[j]? = some y → H2 t = some (.tup [x, y]) := fun j t x y g1 g2 g3 => by
        have ht := List.mem_of_getElem? g1
        have b1 : t ≠ h'.objs.size := fun z => nl (z ▸ ht)
        show (if t = h'.objs.size then _ else if t ∈ ts then _ else H1 t) = _
        rw [if_neg b1, if_pos ht]
        obtain ⟨hj, ej⟩ := List.getElem?_eq_some_iff.mp g1
        have ei : ts.idxOf t = j := by rw [← ej]; exact nd.idxOf_getElem j hj
        rw [ei, List.getD_eq_getElem?_getD, List.getD_eq_getElem?_getD, g2, g3]; rfl
      have I3 : Inv X pins σ H2 { s1 with heap := h2, toks := s1.toks } := I1.more k12 sm fun b o e => by
        by_cases b1 : b = h'.objs.size
        · subst b1
          rw [e1] at e; cases e
          refine .inr ⟨hbig, by rw [List.length_map, hlen]; exact Nat.le_trans hx1 (by decide), ts.map Value.ref, c, refs_vals ts, hl⟩
        · by_cases b2 : b ∈ ts
          · obtain ⟨j, hj⟩ := List.getElem?_of_mem b2
            have hjl := (List.getElem?_eq_some_iff.mp hj).1
            have hjx : j < xs.length := by omega
            have hjy : j < ys.length := by omega
            rw [et j b _ _ hj (List.getElem?_eq_getElem hjx) (List.getElem?_eq_getElem hjy)] at e
            cases e
            obtain ⟨u, hu, ru⟩ := rva.get (List.getElem?_eq_getElem hjx)
            obtain ⟨v, hv, rv⟩ := rvb.get (List.getElem?_eq_getElem hjy)
            have hp := hpr j b u v hj (by simpa using hu) (by simpa using hv)
            exact .inr ⟨by have := hgt b b2; omega, by show 2 ≤ sizeLine; decide, [u, v], .cons ru (.cons rv .nil), ⟨_, hp, rfl, _, rfl⟩⟩
          · refine .inl ?_
            have e : (if b = h'.objs.size then _ else if b ∈ ts then _ else H1 b) = some o := e
            rw [if_neg b1, if_neg b2] at e
            exact e
      exact ⟨.ref h'.objs.size, H2, I3, rfl, q h'.objs.size ts H2 sm (fr _ hbig) e1 hlen nl nd frt et⟩
end
end L2
/-! ### the pairs of rooms of two houses that are walked at once -/
namespace My
open PySem L2 PyProof.Rows
def rowI (rss : List (List Int)) (p : Int) : List Int := rss.getD p.toNat []
def ahead (rss sss : List (List Int)) (p : Int × Int) : List (Int × Int) := (rowI rss p.1).zip (rowI sss p.2)
def addP (L : List (Int × Int)) (q : Int × Int) : List (Int × Int) := if q ∈ L then L else L ++ [q]
def addAll (L qs : List (Int × Int)) : List (Int × Int) := qs.foldl addP L
def turnP (rss sss : List (List Int)) (L : List (Int × Int)) (i : Nat) : List (Int × Int) := match L[i]? with
  | none => L
  | some p => addAll L (ahead rss sss p)
def runP (rss sss : List (List Int)) : Nat → List (Int × Int)
  | 0 => [(0, 0)]
  | i + 1 => turnP rss sss (runP rss sss i) i
def finP (rss sss : List (List Int)) : List (Int × Int) := runP rss sss (rss.length * sss.length)
theorem addP_pre (L : List (Int × Int)) (q : Int × Int) : ∃ r, addP L q = L ++ r := by
  unfold addP
  by_cases h : q ∈ L
  · exact ⟨[], by rw [if_pos h]; simp⟩
  · exact ⟨[q], by rw [if_neg h]⟩
theorem addP_mem (L : List (Int × Int)) (q : Int × Int) : q ∈ addP L q := by
  unfold addP
  by_cases h : q ∈ L
  · rw [if_pos h]; exact h
  · rw [if_neg h]; simp
theorem addP_nd {L : List (Int × Int)} (q : Int × Int) (h : L.Nodup) : (addP L q).Nodup := by
  unfold addP
  by_cases hq : q ∈ L
  · rw [if_pos hq]; exact h
  · rw [if_neg hq]; exact nd_snoc h hq
theorem addP_in {L : List (Int × Int)} {q p : Int × Int} (h : p ∈ addP L q) : p ∈ L ∨ p = q := by
  unfold addP at h
  by_cases hq : q ∈ L
  · rw [if_pos hq] at h; exact .inl h
  · rw [if_neg hq] at h
    rcases List.mem_append.mp h with h | h
    · exact .inl h
    · exact .inr (List.mem_singleton.mp h)
theorem addAll_cons (L : List (Int × Int)) (q : Int × Int) (qs : List (Int × Int)) : addAll L (q :: qs) = addAll (addP L q) qs := rfl
theorem addAll_snoc (L : List (Int × Int)) (q : Int × Int) (qs : List (Int × Int)) : addAll L (qs ++ [q]) = addP (addAll L qs) q := by unfold addAll; rw [List.foldl_append]; rfl
theorem addAll_pre : ∀ (qs L : List (Int × Int)), ∃ r, addAll L qs = L ++ r
  | [], L => ⟨[], by simp [addAll]⟩
  | q :: qs, L => by
    obtain ⟨r, hr⟩ := addP_pre L q
    obtain ⟨r', hr'⟩ := addAll_pre qs (addP L q)
    exact ⟨r ++ r', by rw [addAll_cons, hr', hr, List.append_assoc]⟩
theorem addAll_mem : ∀ (qs L : List (Int × Int)), ∀ q ∈ qs, q ∈ addAll L qs
  | q :: qs, L, p, hp => by
    rw [addAll_cons]
    rcases List.mem_cons.mp hp with rfl | hp
    · obtain ⟨r, hr⟩ := addAll_pre qs (addP L p)
      rw [hr]; exact List.mem_append_left _ (addP_mem L p)
    · exact addAll_mem qs _ p hp
theorem addAll_nd : ∀ (qs : List (Int × Int)) {L : List (Int × Int)}, L.Nodup → (addAll L qs).Nodup
  | [], _, h => h
  | q :: qs, _, h => by rw [addAll_cons]; exact addAll_nd qs (addP_nd q h)
theorem addAll_in : ∀ (qs : List (Int × Int)) {L : List (Int × Int)} {p : Int × Int}, p ∈ addAll L qs → p ∈ L ∨ p ∈ qs
  | [], _, _, h => .inl h
  | q :: qs, L, p, h => by
    rw [addAll_cons] at h
    rcases addAll_in qs h with h | h
    · rcases addP_in h with h | h
      · exact .inl h
      · exact .inr (by rw [h]; simp)
    · exact .inr (List.mem_cons_of_mem _ h)
theorem addAll_len : ∀ (qs L : List (Int × Int)), (addAll L qs).length ≤ L.length + qs.length
  | [], L => by simp [addAll]
  | q :: qs, L => by
    rw [addAll_cons]
    have h1 := addAll_len qs (addP L q)
    have h2 : (addP L q).length ≤ L.length + 1 := by
      unfold addP
      by_cases h : q ∈ L
      · rw [if_pos h]; omega
      · rw [if_neg h, List.length_append, List.length_singleton]; omega
    rw [List.length_cons]; omega
section
variable {rss sss : List (List Int)}
theorem turnP_pre (L : List (Int × Int)) (i : Nat) : ∃ r, turnP rss sss L i = L ++ r := by
  unfold turnP
  cases L[i]? with
  | none => exact ⟨[], by simp⟩
  | some p => exact addAll_pre _ _
theorem runP_le {i j : Nat} (h : i ≤ j) : ∃ r, runP rss sss j = runP rss sss i ++ r := by
  induction j with
  | zero => exact ⟨[], by have : i = 0 := by omega
                          subst this; simp⟩
  | succ j ih =>
    by_cases hj : i = j + 1
    · exact ⟨[], by rw [hj]; simp⟩
    · obtain ⟨r, hr⟩ := ih (by omega)
      obtain ⟨r', hr'⟩ := turnP_pre (rss := rss) (sss := sss) (runP rss sss j) j
      exact ⟨r ++ r', by show turnP rss sss (runP rss sss j) j = _; rw [hr', hr, List.append_assoc]⟩
theorem runP_nd (i : Nat) : (runP rss sss i).Nodup := by
  induction i with
  | zero => simp [runP]
  | succ i ih =>
    show (turnP rss sss (runP rss sss i) i).Nodup
    unfold turnP
    cases (runP rss sss i)[i]? with
    | none => exact ih
    | some p => exact addAll_nd _ ih
def InP (rss sss : List (List Int)) (p : Int × Int) : Prop := (0 ≤ p.1 ∧ p.1 < rss.length) ∧ (0 ≤ p.2 ∧ p.2 < sss.length)
theorem ahead_in {d : Int} (W : Ways d rss) (W2 : Ways d sss) {p q : Int × Int} (hp : InP rss sss p) (hq : q ∈ ahead rss sss p) : InP rss sss q := by
  obtain ⟨⟨p1, p2⟩, p3, p4⟩ := hp
  have h1 : p.1.toNat < rss.length := by omega
  have h2 : p.2.toNat < sss.length := by omega
  unfold ahead rowI at hq
  rw [List.getD_eq_getElem?_getD, List.getD_eq_getElem?_getD, List.getElem?_eq_getElem h1, List.getElem?_eq_getElem h2] at hq
  obtain ⟨a, b⟩ := List.of_mem_zip (show (q.1, q.2) ∈ _ from hq)
  exact ⟨(W.row _ (List.getElem_mem h1)).2 _ a, (W2.row _ (List.getElem_mem h2)).2 _ b⟩
theorem ahead_len {d : Int} (W : Ways d rss) (W2 : Ways d sss) {p : Int × Int} (hp : InP rss sss p) : ((ahead rss sss p).length : Int) = d := by
  obtain ⟨⟨p1, p2⟩, p3, p4⟩ := hp
  have h1 : p.1.toNat < rss.length := by omega
  have h2 : p.2.toNat < sss.length := by omega
  unfold ahead rowI
  rw [List.getD_eq_getElem?_getD, List.getD_eq_getElem?_getD, List.getElem?_eq_getElem h1, List.getElem?_eq_getElem h2, List.length_zip]
  have a := (W.row _ (List.getElem_mem h1)).1
  have b := (W2.row _ (List.getElem_mem h2)).1
  simp only [Option.getD_some]
  omega
theorem runP_in {d : Int} (W : Ways d rss) (W2 : Ways d sss) (h1 : 0 < rss.length) (h2 : 0 < sss.length) (i : Nat) : ∀ p ∈ runP rss sss i, InP rss sss p := by
  induction i with
  | zero =>
    intro p hp
    have e : p = (0, 0) := by simpa [runP] using hp
    subst e
    exact ⟨⟨Int.le_refl 0, by show (0 : Int) < _; omega⟩, Int.le_refl 0, by show (0 : Int) < _; omega⟩
  | succ i ih =>
    intro p hp
    have hp : p ∈ turnP rss sss (runP rss sss i) i := hp
    unfold turnP at hp
    cases e : (runP rss sss i)[i]? with
    | none => rw [e] at hp; exact ih p hp
    | some g =>
      rw [e] at hp
      rcases addAll_in _ hp with h | h
      · exact ih p h
      · exact ahead_in W W2 (ih g (List.mem_of_getElem? e)) h
theorem pairs_len {L : List (Int × Int)} (nd : L.Nodup) (hin : ∀ p ∈ L, InP rss sss p) : L.length ≤ rss.length * sss.length := by
  have h := nodup_le (rss.length * sss.length) (L.map fun e => e.1.toNat * sss.length + e.2.toNat) ?_ ?_
  · simpa using h
  · rw [List.nodup_iff_pairwise_ne, List.pairwise_map]
    refine (List.nodup_iff_pairwise_ne.mp nd).imp_of_mem fun {e f} he hf hef z => hef ?_
    obtain ⟨⟨e1, e2⟩, e3, e4⟩ := hin e he
    obtain ⟨⟨f1, f2⟩, f3, f4⟩ := hin f hf
    have h2 : e.2.toNat < sss.length := by omega
    have h4 : f.2.toNat < sss.length := by omega
    have hm : e.2.toNat = f.2.toNat := by
      have := congrArg (· % sss.length) z
      simpa [Nat.mul_add_mod_of_lt, Nat.add_mod, Nat.mod_eq_of_lt h2, Nat.mod_eq_of_lt h4] using this
    have hq : e.1.toNat = f.1.toNat := by
      rw [hm] at z
      have z' : e.1.toNat * sss.length = f.1.toNat * sss.length := by omega
      exact Nat.eq_of_mul_eq_mul_right (by omega) z'
    exact Prod.ext (by omega) (by omega)
  · intro x hx
    obtain ⟨e, he, rfl⟩ := List.mem_map.mp hx
    obtain ⟨⟨e1, e2⟩, e3, e4⟩ := hin e he
    have h1 : e.1.toNat + 1 ≤ rss.length := by omega
    have h2 : e.2.toNat < sss.length := by omega
    calc e.1.toNat * sss.length + e.2.toNat < e.1.toNat * sss.length + sss.length := by omega
      _ = (e.1.toNat + 1) * sss.length := by rw [Nat.succ_mul]
      _ ≤ rss.length * sss.length := Nat.mul_le_mul_right _ h1
theorem runP_stop {i : Nat} (h : (runP rss sss i).length ≤ i) : ∀ k, runP rss sss (i + k) = runP rss sss i
  | 0 => rfl
  | k + 1 => by
    show turnP rss sss (runP rss sss (i + k)) (i + k) = _
    rw [runP_stop h k]
    unfold turnP
    rw [List.getElem?_eq_none (by omega)]
variable {d : Int} (W : Ways d rss) (W2 : Ways d sss) (h1 : 0 < rss.length) (h2 : 0 < sss.length)
include W W2 h1 h2
theorem finP_len : (finP rss sss).length ≤ rss.length * sss.length := pairs_len (runP_nd _) (runP_in W W2 h1 h2 _)
theorem finP_of {i : Nat} (h : (runP rss sss i).length ≤ i) : runP rss sss i = finP rss sss := by
  have hf := finP_len W W2 h1 h2
  rcases Nat.le_total i (rss.length * sss.length) with hi | hi
  · have := runP_stop h (rss.length * sss.length - i)
    rw [Nat.add_sub_cancel' hi] at this
    exact this.symm
  · have := runP_stop (rss := rss) (sss := sss) (i := rss.length * sss.length) hf (i - rss.length * sss.length)
    rw [Nat.add_sub_cancel' hi] at this
    exact this
theorem finP_pre (i : Nat) : ∃ r, finP rss sss = runP rss sss i ++ r := by
  rcases Nat.le_total i (rss.length * sss.length) with hi | hi
  · exact runP_le hi
  · have hf := finP_len W W2 h1 h2
    have := runP_stop (rss := rss) (sss := sss) (i := rss.length * sss.length) hf (i - rss.length * sss.length)
    rw [Nat.add_sub_cancel' hi] at this
    exact ⟨[], by rw [this]; simp [finP]⟩
theorem finP_at {i : Nat} {p : Int × Int} (h : (finP rss sss)[i]? = some p) : (runP rss sss i)[i]? = some p := by
  have hl := (List.getElem?_eq_some_iff.mp h).1
  obtain ⟨r, hr⟩ := finP_pre W W2 h1 h2 i
  have : i < (runP rss sss i).length := by
    rcases Nat.lt_or_ge i (runP rss sss i).length with z | z
    · exact z
    · rw [← finP_of W W2 h1 h2 z] at hl; omega
  rw [hr, List.getElem?_append_left this] at h
  exact h
theorem finP_closed {p q : Int × Int} (hp : p ∈ finP rss sss) (hq : q ∈ ahead rss sss p) : q ∈ finP rss sss := by
  obtain ⟨i, hi⟩ := List.getElem?_of_mem hp
  have h := finP_at W W2 h1 h2 hi
  obtain ⟨r, hr⟩ := finP_pre W W2 h1 h2 (i + 1)
  rw [hr]
  refine List.mem_append_left _ ?_
  show q ∈ turnP rss sss (runP rss sss i) i
  unfold turnP
  rw [h]
  exact addAll_mem _ _ q hq
end
/-- the number of a pair in the order of discovery -/
def numP (L : List (Int × Int)) (q : Int × Int) : Int := (L.idxOf q : Nat)
def mixW (rss sss : List (List Int)) : List (List Int) := (finP rss sss).map fun p => (ahead rss sss p).map (numP (finP rss sss))
def tbl (tb : List Bool) (a b : Bool) : Bool := tb.getD (2 * (if a then 1 else 0) + (if b then 1 else 0)) false
def lampP (ls ls2 tb : List Bool) (p : Int × Int) : Bool := tbl tb (ls.getD p.1.toNat false) (ls2.getD p.2.toNat false)
def mixL (rss sss : List (List Int)) (ls ls2 tb : List Bool) : List Bool := (finP rss sss).map (lampP ls ls2 tb)
theorem mix_valid {rss sss : List (List Int)} {d : Int} (W : Ways d rss) (W2 : Ways d sss) (h1 : 0 < rss.length) (h2 : 0 < sss.length) (hd1 : 1 ≤ d) (hd6 : d ≤ 6) (h4 : (finP rss sss).length ≤ 400) (ls ls2 tb : List Bool) : Valid d (mixW rss sss) (mixL rss sss ls ls2 tb) := by
  have hl : (mixW rss sss).length = (finP rss sss).length := by unfold mixW; rw [List.length_map]
  have h0 : 0 < (finP rss sss).length := by
    obtain ⟨r, hr⟩ := finP_pre W W2 h1 h2 0
    rw [hr]; simp [runP]
  refine { row := fun row hrow => ?_, d1 := hd1, d6 := hd6, r1 := by omega, r400 := by omega, ll := by unfold mixL; rw [List.length_map, hl] }
  obtain ⟨p, hp, rfl⟩ := List.mem_map.mp hrow
  refine ⟨by rw [List.length_map]; exact ahead_len W W2 (runP_in W W2 h1 h2 _ p hp), fun x hx => ?_⟩
  obtain ⟨q, hq, rfl⟩ := List.mem_map.mp hx
  have := List.idxOf_lt_length_of_mem (finP_closed W W2 h1 h2 hp hq)
  rw [hl]
  unfold numP
  omega
end My
/-! ### try around one call of a def of the module, some handlers, each by its class or one above it: the names stand as before where it raises -/
namespace L2
open PySem PySem.Spec PyProof.Rows

end L2
namespace My
/-! ### numbers by first coming -/

end My
namespace My
/-! ### kinds of rooms, parted further by each round -/

end My
namespace My
/-! ### one room for each kind -/

end My
namespace My
/-! ### rooms in the order of their least words -/
end My
namespace My
/-! ### only the rooms that are reached -/

/-! ### one house with the fewest rooms -/

end My
namespace My
/-! ### a house that another one is like, room by room -/
end My
/-! ### max of a list of ints, index of an int, one of two rules -/
namespace L2
open PySem PySem.Spec PyProof.Rows

end L2
/-! ### keys that are a number and a tuple of numbers; setdefault -/
namespace PySem
open Sem (wp)


end PySem
namespace L2
open PySem PySem.Spec PyProof.Rows

end L2
set_option maxHeartbeats 1000000
namespace My
open PySem L2 PyProof.Rows
def top (i : Nat) : Stmt := PySem.Challenge.pw_askhouse_k10_mixtures.main.body.getD i (.Pass ⟨0, 0, 0, 0⟩)
abbrev s_check_doors : Stmt := top 9
abbrev s_check_house : Stmt := top 10
abbrev s_House_init : Stmt := inClass (top 11) 0
abbrev s_House_rooms : Stmt := inClass (top 11) 1
abbrev s_check_same_doors : Stmt := top 13
abbrev s_pairs_ahead : Stmt := top 14
abbrev s_numbers_of_pairs : Stmt := top 15
abbrev s_truth_of : Stmt := top 16
abbrev s_mixed : Stmt := top 17
abbrev s_l_cell_at : Stmt := top 19
abbrev s_l_draw : Stmt := top 20
abbrev s_l_ways_by : Stmt := top 21
abbrev s_l_lamps_by : Stmt := top 22
abbrev s_l_whole : Stmt := top 23
abbrev s_l_numbers : Stmt := top 24
abbrev s_l_truths : Stmt := top 25
abbrev s_l_house_is : Stmt := top 26
abbrev s_l_stands_under : Stmt := top 27
abbrev s_l_mixture : Stmt := top 28
abbrev s_l_name : Stmt := top 29
abbrev s_law : Stmt := top 30
local macro_rules | `(tactic| walk_at "sx") => `(tactic| first
  | with_reducible refine r_seq ?_ | with_reducible refine r_asg ?_ | with_reducible refine r_gname ?_ | with_reducible refine r_gsub ?_ | with_reducible refine r_drop ?_ | with_reducible refine r_ret ?_ | with_reducible refine r_ifs ?_
  | ((with_reducible refine r_var (v := ?v) ?e ?_); (case e => exact rfl))
  | with_reducible refine r_C ?_ | with_reducible refine r_op ?_ | with_reducible refine r_un ?_ | with_reducible refine r_test ?_ | with_reducible refine r_tB ?_ | with_reducible refine r_bl ?_
  | with_reducible refine r_and ?_ | with_reducible refine r_or ?_ | with_reducible refine r_not ?_ | with_reducible refine r_andV ?_ | with_reducible refine r_orV ?_ | with_reducible refine r_notV ?_ | with_reducible refine r_chain ?_
  | with_reducible refine r_call ?_ | with_reducible refine r_cb ?_ | with_reducible refine r_cons ?_ | with_reducible refine r_nil ?_ | with_reducible refine r_next ?_ | with_reducible refine r_lst ?_ | with_reducible refine r_tup ?_
  | with_reducible refine r_for ?_ | with_reducible refine r_rng1 ?_ | with_reducible refine r_rng2 ?_ | with_reducible refine r_ilist ?_ | with_reducible refine r_ienum ?_ | with_reducible refine r_izip ?_ | with_reducible refine r_listzip ?_ | with_reducible refine r_ikeysT ?_ | with_reducible refine r_comp ?_ | with_reducible refine r_bm ?_ | with_reducible refine r_meth ?_ | with_reducible refine r_make ?_ | with_reducible refine r_sfld ?_
  | with_reducible refine r_I0 ?_ | with_reducible refine r_U ?_
  | ((with_reducible refine r_I ?c ?_); (case c => first | (show (0 : Int) < _; first | assumption | decide | omega) | exact ⟨by decide, by decide⟩ | exact Or.inl ⟨by decide, by decide⟩ | exact Or.inr ⟨by decide, by decide⟩))
  | with_reducible refine r_raise ?_ | with_reducible refine r_joined ?_ | with_reducible refine r_jstr ?_ | with_reducible refine r_jnil ?_ | with_reducible refine r_jint ?_ | with_reducible refine r_try ?_
  | with_reducible refine r_bm0 ?_ | with_reducible refine r_dget ?_ | with_reducible refine r_din ?_ | with_reducible refine r_dnotin ?_ | with_reducible refine r_dput ?_ | with_reducible refine r_dnew ?_ | with_reducible refine r_sl ?_ | with_reducible refine r_nopart ?_ | with_reducible refine r_part ?_
  | with_reducible refine r_dispT ?_ | with_reducible refine r_jbl ?_ | with_reducible refine r_compI ?_ | with_reducible refine r_ifE ?_ | with_reducible refine r_tryN ?_ | with_reducible refine r_iitemsK ?_ | with_reducible refine r_tryA ?_ | with_reducible refine r_thaw ?_ | with_reducible refine r_iitems ?_ | with_reducible refine r_dget1 ?_ | with_reducible refine r_dnewT ?_
  | with_reducible refine r_slN ?_ | with_reducible refine r_dnewG ?_ | with_reducible refine r_gin ?_ | with_reducible refine r_gnotin ?_ | with_reducible refine r_gget ?_ | with_reducible refine r_gput ?_ | with_reducible refine r_sfldaug ?_
  | with_reducible refine r_snx ?_ | with_reducible refine r_srt ?_
  | with_reducible refine r_nx ?_ | with_reducible refine r_rt ?_)

theorem len_1 {α : Type} {us : List α} (h : us.length = 1) : ∃ a0, us = [a0] := List.length_eq_one_iff.mp h
theorem len_2 {α : Type} {us : List α} (h : us.length = 2) : ∃ a0 a1, us = [a0, a1] := by
  cases us with
  | nil => simp at h
  | cons a0 r =>
    obtain ⟨a1, e⟩ := len_1 (us := r) (by simpa using h)
    exact ⟨a0, a1, by rw [e]⟩
theorem len_3 {α : Type} {us : List α} (h : us.length = 3) : ∃ a0 a1 a2, us = [a0, a1, a2] := by
  cases us with
  | nil => simp at h
  | cons a0 r =>
    obtain ⟨a1, a2, e⟩ := len_2 (us := r) (by simpa using h)
    exact ⟨a0, a1, a2, by rw [e]⟩
theorem len_4 {α : Type} {us : List α} (h : us.length = 4) : ∃ a0 a1 a2 a3, us = [a0, a1, a2, a3] := by
  cases us with
  | nil => simp at h
  | cons a0 r =>
    obtain ⟨a1, a2, a3, e⟩ := len_3 (us := r) (by simpa using h)
    exact ⟨a0, a1, a2, a3, by rw [e]⟩
theorem len_5 {α : Type} {us : List α} (h : us.length = 5) : ∃ a0 a1 a2 a3 a4, us = [a0, a1, a2, a3, a4] := by
  cases us with
  | nil => simp at h
  | cons a0 r =>
    obtain ⟨a1, a2, a3, a4, e⟩ := len_4 (us := r) (by simpa using h)
    exact ⟨a0, a1, a2, a3, a4, by rw [e]⟩
theorem ki_ib (K : PySem.W.Frag) : PySem.W.kitOne K (.type "int") (.type "bool") = some false := by
  first
  | rfl
  | (show (if (Value.type "int" == Value.type "bool") = true then some true else if PySem.W.kitMeta "bool" = true then PySem.W.subIn K (.type "int") (.type "bool") else Option.none) = some false
     rw [if_neg (by decide +kernel), if_pos (by decide +kernel)]
     first | rfl | decide +kernel | (unfold PySem.W.subIn; rfl))
/-! ### data in the heap -/
structure Mat (H : Hp) (a : Addr) (rs : List Addr) (rss : List (List Int)) : Prop where
  top : H a = some (.lst (rs.map V.ref))
  len : rs.length = rss.length
  row : ∀ (i : Nat) (r : Addr) (row : List Int), rs[i]? = some r → rss[i]? = some row → H r = some (.lst (row.map V.int))
  nd : (a :: rs).Nodup
theorem Mat.same {H H' : Hp} {a : Addr} {rs : List Addr} {rss : List (List Int)} (e : Same H H') (m : Mat H a rs rss) : Mat H' a rs rss :=
  ⟨e _ _ m.top, m.len, fun i r row h1 h2 => e _ _ (m.row i r row h1 h2), m.nd⟩
theorem Mat.get {H : Hp} {a : Addr} {rs : List Addr} {rss : List (List Int)} (m : Mat H a rs rss) {i : Nat} {row : List Int} (h : rss[i]? = some row) :
    ∃ r, rs[i]? = some r ∧ (rs.map V.ref)[i]? = some (.ref r) ∧ H r = some (.lst (row.map V.int)) := by
  obtain ⟨hi, _⟩ := List.getElem?_eq_some_iff.mp h
  have hr : i < rs.length := by rw [m.len]; exact hi
  refine ⟨rs[i], List.getElem?_eq_getElem hr, ?_, m.row i _ row (List.getElem?_eq_getElem hr) h⟩
  rw [List.getElem?_map, List.getElem?_eq_getElem hr]; rfl
theorem Mat.upd {H : Hp} {a : Addr} {rs : List Addr} {rss : List (List Int)} (m : Mat H a rs rss) {b : Addr} {o : HO} (hb : b ∉ a :: rs) : Mat (upd H b o) a rs rss := by
  refine ⟨?_, m.len, fun i r row h1 h2 => ?_, m.nd⟩
  · rw [upd_ne (fun z => hb (by rw [← z]; exact List.mem_cons_self))]; exact m.top
  · rw [upd_ne (fun z => hb (by rw [← z]; exact List.mem_cons_of_mem _ (List.mem_of_getElem? h1)))]; exact m.row i r row h1 h2
theorem Mat.mem {H : Hp} {a : Addr} {rs : List Addr} {rss : List (List Int)} (m : Mat H a rs rss) {b : Addr} (hb : b ∈ a :: rs) : ∃ o, H b = some o := by
  rcases List.mem_cons.mp hb with rfl | hb
  · exact ⟨_, m.top⟩
  · obtain ⟨i, hi⟩ := List.getElem?_of_mem hb
    obtain ⟨h1, _⟩ := List.getElem?_eq_some_iff.mp hi
    have h2 : i < rss.length := by rw [← m.len]; exact h1
    exact ⟨_, m.row i b rss[i] hi (List.getElem?_eq_getElem h2)⟩
theorem int_map_get {ns : List Int} {i : Nat} {x : Int} (h : ns[i]? = some x) : (ns.map V.int)[i]? = some (.int x) := by rw [List.getElem?_map, h]; rfl
theorem int_map_inv {ns : List Int} {i : Nat} {x : V} (h : (ns.map V.int)[i]? = some x) : ∃ n, x = .int n ∧ ns[i]? = some n := by
  rw [List.getElem?_map] at h
  cases e : ns[i]? with
  | none => rw [e] at h; cases h
  | some n => rw [e] at h; cases h; exact ⟨n, rfl, rfl⟩
theorem bl_map_get {ns : List Bool} {i : Nat} {x : Bool} (h : ns[i]? = some x) : (ns.map V.bl)[i]? = some (.bl x) := by rw [List.getElem?_map, h]; rfl
theorem bl_map_inv {ns : List Bool} {i : Nat} {x : V} (h : (ns.map V.bl)[i]? = some x) : ∃ n, x = .bl n ∧ ns[i]? = some n := by
  rw [List.getElem?_map] at h
  cases e : ns[i]? with
  | none => rw [e] at h; cases h
  | some n => rw [e] at h; cases h; exact ⟨n, rfl, rfl⟩
theorem ref_map_inv {ns : List Addr} {i : Nat} {x : V} (h : (ns.map V.ref)[i]? = some x) : ∃ n, x = .ref n ∧ ns[i]? = some n := by
  rw [List.getElem?_map] at h
  cases e : ns[i]? with
  | none => rw [e] at h; cases h
  | some n => rw [e] at h; cases h; exact ⟨n, rfl, rfl⟩
/-- the fields of a house -/
def hfs (d : Int) (aw al : Addr) : List (Str × V) := putF "lamps" (.ref al) (putF "ways" (.ref aw) (putF "doors" (.int d) []))
theorem s_lw : ¬ (("lamps" : Str) = "ways") := by decide +kernel
theorem s_ld : ¬ (("lamps" : Str) = "doors") := by decide +kernel
theorem s_wd : ¬ (("ways" : Str) = "doors") := by decide +kernel
theorem hfs_doors (d : Int) (aw al : Addr) : (hfs d aw al).lookup ("doors" : Str) = some (.int d) := by
  unfold hfs; rw [lookup_putF, if_neg (fun z => s_ld z.symm), lookup_putF, if_neg (fun z => s_wd z.symm), lookup_putF, if_pos rfl]
theorem hfs_ways (d : Int) (aw al : Addr) : (hfs d aw al).lookup ("ways" : Str) = some (.ref aw) := by
  unfold hfs; rw [lookup_putF, if_neg (fun z => s_lw z.symm), lookup_putF, if_pos rfl]
theorem hfs_lamps (d : Int) (aw al : Addr) : (hfs d aw al).lookup ("lamps" : Str) = some (.ref al) := by
  unfold hfs; rw [lookup_putF, if_pos rfl]
structure HouseAt (C : Addr) (H : Hp) (p : Addr) (d : Int) (aw : Addr) (rs : List Addr) (rss : List (List Int)) (al : Addr) (ls : List Bool) : Prop where
  ob : ∃ dx, H p = some (.ins C dx (hfs d aw al))
  ways : Mat H aw rs rss
  lamps : H al = some (.lst (ls.map V.bl))
theorem HouseAt.same {C : Addr} {H H' : Hp} {p : Addr} {d : Int} {aw : Addr} {rs : List Addr} {rss : List (List Int)} {al : Addr} {ls : List Bool} (e : Same H H') (h : HouseAt C H p d aw rs rss al ls) : HouseAt C H' p d aw rs rss al ls :=
  ⟨let ⟨dx, q⟩ := h.ob; ⟨dx, e _ _ q⟩, h.ways.same e, e _ _ h.lamps⟩
/-- between two turns: the rows so far -/
structure Grown (H H' : Hp) (l : Addr) (rs : List Addr) (f : Nat → List Int) : Prop where
  top : H' l = some (.lst (rs.map V.ref))
  row : ∀ (j : Nat) (b : Addr), rs[j]? = some b → H' b = some (.lst ((f j).map V.int))
  nd : (l :: rs).Nodup
  new : ∀ b ∈ l :: rs, H b = none
  same : Same H H'
theorem Grown.start {H : Hp} {l : Addr} {f : Nat → List Int} (hl : H l = none) : Grown H (upd H l (.lst [])) l [] f :=
  ⟨upd_same, fun j b h => by simp at h, by simp, fun b hb => by rw [List.mem_singleton.mp hb]; exact hl, Same.upd_new hl⟩
theorem Grown.fresh {H H' : Hp} {l : Addr} {rs : List Addr} {f : Nat → List Int} (G : Grown H H' l rs f) {p : Addr} (hp : H' p = none) : p ∉ l :: rs := fun hm => by
  rcases List.mem_cons.mp hm with rfl | hm
  · rw [G.top] at hp; cases hp
  · obtain ⟨j, hj⟩ := List.getElem?_of_mem hm
    rw [G.row j p hj] at hp; cases hp
theorem Grown.snoc {H H' : Hp} {l p : Addr} {rs : List Addr} {f : Nat → List Int} (G : Grown H H' l rs f) (hp : H' p = none) :
    Grown H (upd (upd H' p (.lst ((f rs.length).map V.int))) l (.lst (rs.map V.ref ++ [.ref p]))) l (rs ++ [p]) f := by
  have np := G.fresh hp
  have hpl : p ≠ l := fun z => np (by rw [z]; exact List.mem_cons_self)
  have nl : l ∉ rs := (List.nodup_cons.mp G.nd).1
  refine ⟨?_, fun j b hj => ?_, ?_, fun b hb => ?_, fun b o e => ?_⟩
  · rw [upd_same, List.map_append]; rfl
  · have hbl : b ≠ l := fun z => by
      have hm := List.mem_of_getElem? hj
      rcases List.mem_append.mp hm with hm | hm
      · exact nl (z ▸ hm)
      · exact hpl ((List.mem_singleton.mp hm).symm.trans z)
    rw [upd_ne hbl]
    by_cases hlt : j < rs.length
    · rw [List.getElem?_append_left hlt] at hj
      have hbp : b ≠ p := fun z => np (List.mem_cons_of_mem _ (z ▸ List.mem_of_getElem? hj))
      rw [upd_ne hbp]; exact G.row j b hj
    · obtain ⟨hj1, _⟩ := List.getElem?_eq_some_iff.mp hj
      have hj2 : j = rs.length := by rw [List.length_append, List.length_singleton] at hj1; omega
      subst hj2
      rw [List.getElem?_append_right (Nat.le_refl _), Nat.sub_self] at hj
      cases hj
      rw [upd_same]
  · have : (l :: (rs ++ [p])).Nodup := by
      rw [← List.cons_append]
      exact nd_snoc G.nd np
    exact this
  · have hb : b ∈ (l :: rs) ++ [p] := hb
    rcases List.mem_append.mp hb with hb | hb
    · exact G.new b hb
    · rw [List.mem_singleton.mp hb]; exact G.same.free hp
  · have hbl : b ≠ l := ne_of_none e (G.new l List.mem_cons_self)
    have e' := G.same b o e
    rw [upd_ne hbl, upd_ne (ne_of_none e' hp)]
    exact e'
theorem Grown.mat {H H' : Hp} {l : Addr} {rs : List Addr} {f : Nat → List Int} (G : Grown H H' l rs f) : Mat H' l rs ((List.range rs.length).map f) :=
  ⟨G.top, by simp, fun i r row h1 h2 => by
    rw [List.getElem?_map] at h2
    obtain ⟨hi, _⟩ := List.getElem?_eq_some_iff.mp h1
    rw [List.getElem?_range hi] at h2
    cases h2
    exact G.row i r h1, G.nd⟩
theorem Grown.step {H H' H'' : Hp} {l p : Addr} {rs : List Addr} {f : Nat → List Int} (G : Grown H H' l rs f) (hp : H' p = none) (top : H'' l = some (.lst ((rs ++ [p]).map V.ref))) (row : H'' p = some (.lst ((f rs.length).map V.int)))
    (keep : ∀ b o, b ≠ l → (b ∈ rs ∨ H b ≠ none) → H' b = some o → H'' b = some o) : Grown H H'' l (rs ++ [p]) f := by
  have np := G.fresh hp
  have hpl : p ≠ l := fun z => np (by rw [z]; exact List.mem_cons_self)
  have nl : l ∉ rs := (List.nodup_cons.mp G.nd).1
  refine ⟨top, fun j b hj => ?_, ?_, fun b hb => ?_, fun b o e => ?_⟩
  · by_cases hlt : j < rs.length
    · rw [List.getElem?_append_left hlt] at hj
      have hm := List.mem_of_getElem? hj
      exact keep b _ (fun z => nl (z ▸ hm)) (.inl hm) (G.row j b hj)
    · obtain ⟨hj1, _⟩ := List.getElem?_eq_some_iff.mp hj
      have hj2 : j = rs.length := by rw [List.length_append, List.length_singleton] at hj1; omega
      subst hj2
      rw [List.getElem?_append_right (Nat.le_refl _), Nat.sub_self] at hj
      cases hj
      exact row
  · have : (l :: (rs ++ [p])).Nodup := by
      rw [← List.cons_append]
      exact nd_snoc G.nd np
    exact this
  · have hb : b ∈ (l :: rs) ++ [p] := hb
    rcases List.mem_append.mp hb with hb | hb
    · exact G.new b hb
    · rw [List.mem_singleton.mp hb]; exact G.same.free hp
  · have hbl : b ≠ l := ne_of_none e (G.new l List.mem_cons_self)
    exact keep b o hbl (.inr (by rw [e]; intro z; cases z)) (G.same b o e)
theorem Grown.matOf {H H' : Hp} {l : Addr} {rs : List Addr} {rss : List (List Int)} (G : Grown H H' l rs (fun j => rss.getD j [])) (hlen : rs.length = rss.length) : Mat H' l rs rss := by
  have := G.mat
  rw [hlen] at this
  have e : (List.range rss.length).map (fun j => rss.getD j []) = rss := by
    apply List.ext_getElem
    · simp
    · intro i h1 h2
      simp [List.getD_eq_getElem?_getD, List.getElem?_eq_getElem h2]
  rw [e] at this
  exact this
/-- [list(row) for row in ways] -/
theorem comp_copy {K : PySem.W.Frag} {H : Hp} {a : Addr} {rs : List Addr} {rss : List (List Int)} {σ : L2.St} {Q : VK} (M : Mat H a rs rss) (h900 : rss.length ≤ 900)
    (q : ∀ aw rs' H', Same H H' → Mat H' aw rs' rss → (∀ b ∈ aw :: rs', H b = none) → Q (.ref aw) H') :
    CompR [none] (gName 0) (tCB (fun xs H Q => ∃ p ys, xs = [.ref p] ∧ (SqL K H p ys ∨ SqT K H p ys) ∧ ∀ l, H l = none → Q (.ref l) (upd H l (.lst ys))) (tCons (tVar 0) tNil)) σ Q (Itl K a) H := by
  refine comp_list (xs := rs.map V.ref) (fun aw i ys H' => ∃ rs', ys = rs'.map V.ref ∧ rs'.length = i ∧ Grown H H' aw rs' (fun j => rss.getD j [])) (fun aw haw => ⟨[], rfl, rfl, Grown.start haw⟩) (fun aw i ys H' haw _ p => by obtain ⟨rs', _, _, G⟩ := p; exact SqL.of (G.same _ _ M.top)) (fun aw i x ys H' haw hx p => ?_) (fun aw ys H' haw p => ?_)
  · obtain ⟨rs', rfl, hlen, G⟩ := p
    obtain ⟨r, rfl, hr'⟩ := ref_map_inv hx
    obtain ⟨hi, _⟩ := List.getElem?_eq_some_iff.mp hr'
    have hi' : i < rss.length := by rw [← M.len]; exact hi
    have hrow := M.row i r rss[i] hr' (List.getElem?_eq_getElem hi')
    have egd : rss.getD rs'.length [] = rss[i] := by rw [hlen, List.getD_eq_getElem?_getD, List.getElem?_eq_getElem hi', Option.getD_some]
    repeat walk_at "sx"
    refine ⟨Wk.set rfl, ?_⟩
    repeat walk_at "sx"
    refine ⟨r, _, rfl, .inl (SqL.of (G.same _ _ hrow)), fun l0 hl0 => ?_⟩
    have hla : aw ≠ l0 := fun z => G.fresh hl0 (by rw [z]; exact List.mem_cons_self)
    refine ⟨by rw [upd_ne hla]; exact G.top, small1000 (by simp; omega), rs' ++ [l0], by simp, by simp [hlen], ?_⟩
    have := G.snoc hl0
    rw [egd] at this
    exact this
  · obtain ⟨rs', rfl, hlen, G⟩ := p
    have hlen' : rs'.length = rss.length := by rw [hlen, List.length_map, M.len]
    refine q aw rs' H' G.same ?_ G.new
    have := G.mat
    rw [hlen'] at this
    have e : (List.range rss.length).map (fun j => rss.getD j []) = rss := by
      apply List.ext_getElem
      · simp
      · intro i h1 h2
        simp [List.getD_eq_getElem?_getD, List.getElem?_eq_getElem h2]
    rw [e] at this
    exact this

theorem dts_bl (K : PySem.W.Frag) (H : Hp) : ∀ ns : List Bool, Dts K H (ns.map V.bl) (ns.map PyData.bool)
  | [] => .nil
  | b :: r => .cons (.bl b) (dts_bl K H r)
theorem lay_bl : ∀ ns : List Bool, PyData.canLayAll0 (ns.map PyData.bool) = true
  | [] => rfl
  | _ :: r => by simp [PyData.canLayAll0, PyData.canLay0, lay_bl r]
theorem depth_bl : ∀ ns : List Bool, PyData.depthAll (ns.map PyData.bool) = 0
  | [] => rfl
  | _ :: r => by simp [PyData.depthAll, PyData.depth, depth_bl r]
theorem shaped_bl (ns : List Bool) : SeqAt.shaped (.list (ns.map PyData.bool)) = true := by
  simp [SeqAt.shaped, PyData.canLay0, PyData.depth, lay_bl, depth_bl]
theorem eqv_bl : ∀ ns : List Bool, PyData.eqvAll (ns.map PyData.bool) (ns.map PyData.bool) = true
  | [] => by simp [PyData.eqvAll]
  | b :: r => by simp [PyData.eqvAll, PyData.eqv, eqv_bl r]
theorem eqv_bls (ns : List Bool) : PyData.eqv (.list (ns.map PyData.bool)) (.list (ns.map PyData.bool)) = true := by
  simp [PyData.eqv, eqv_bl]
theorem take_snocA {α : Type} {w : List α} {i : Nat} {x : α} (h : w[i]? = some x) : w.take (i + 1) = w.take i ++ [x] := by
  rw [List.take_add_one, h]; rfl
set_option genInjectivity false in
set_option genSizeOf false in
structure Adr where
  C_House : Addr
  C_HouseError : Addr
  C_BadHouse : Addr
  C_OtherDoors : Addr
  C_TooGreat : Addr
  f_check_doors : Addr
  fd_check_doors : FuncData
  f_check_house : Addr
  fd_check_house : FuncData
  f_House_init : Addr
  fd_House_init : FuncData
  f_House_rooms : Addr
  fd_House_rooms : FuncData
  f_check_same_doors : Addr
  fd_check_same_doors : FuncData
  f_pairs_ahead : Addr
  fd_pairs_ahead : FuncData
  f_numbers_of_pairs : Addr
  fd_numbers_of_pairs : FuncData
  f_truth_of : Addr
  fd_truth_of : FuncData
  f_mixed : Addr
  fd_mixed : FuncData
  f_l_cell_at : Addr
  fd_l_cell_at : FuncData
  f_l_draw : Addr
  fd_l_draw : FuncData
  f_l_ways_by : Addr
  fd_l_ways_by : FuncData
  f_l_lamps_by : Addr
  fd_l_lamps_by : FuncData
  f_l_whole : Addr
  fd_l_whole : FuncData
  f_l_numbers : Addr
  fd_l_numbers : FuncData
  f_l_truths : Addr
  fd_l_truths : FuncData
  f_l_house_is : Addr
  fd_l_house_is : FuncData
  f_l_stands_under : Addr
  fd_l_stands_under : FuncData
  f_l_mixture : Addr
  fd_l_mixture : FuncData
  f_l_name : Addr
  fd_l_name : FuncData
  f_law : Addr
  fd_law : FuncData
structure Txt (K : PySem.W.Frag) (mg : Str → Option Value) (t : Adr) : Prop where
  m_len : mg "len" = none
  m_range : mg "range" = none
  m_isinstance : mg "isinstance" = none
  m_list : mg "list" = none
  m_int : mg "int" = none
  m_bool : mg "bool" = none
  m_enumerate : mg "enumerate" = none
  m_ValueError : mg "ValueError" = none
  m_zip : mg "zip" = none
  mg_MOST_DOORS : ∃ tk, mg "MOST_DOORS" = some (.int 6 tk)
  mg_MOST_ROOMS : ∃ tk, mg "MOST_ROOMS" = some (.int 400 tk)
  mg_House : mg "House" = some (.ref t.C_House)
  cl_House : Cls K t.C_House
  tc_House : PySem.W.findIn K (.ref t.C_House) "__class__" = some (some (.builtin "object.__class__"))
  tm_House : PySem.W.mroIn K t.C_House (.type "object") = some true
  na_House_doors : NoAttr K t.C_House "doors"
  na_House_ways : NoAttr K t.C_House "ways"
  na_House_lamps : NoAttr K t.C_House "lamps"
  mg_HouseError : mg "HouseError" = some (.ref t.C_HouseError)
  ex_HouseError : ExcK K "HouseError" t.C_HouseError
  cl_HouseError : PySem.W.isClsIn K t.C_HouseError = true
  ty_HouseError : PySem.W.typeIn K (.ref t.C_HouseError) = some (.type "type")
  mv_HouseError : PySem.W.mroIn K t.C_HouseError (.type "ValueError") = some true
  ms_HouseError : PySem.W.mroIn K t.C_HouseError (.ref t.C_HouseError) = some true
  mg_BadHouse : mg "BadHouse" = some (.ref t.C_BadHouse)
  ex_BadHouse : ExcK K "BadHouse" t.C_BadHouse
  cl_BadHouse : PySem.W.isClsIn K t.C_BadHouse = true
  ty_BadHouse : PySem.W.typeIn K (.ref t.C_BadHouse) = some (.type "type")
  mv_BadHouse : PySem.W.mroIn K t.C_BadHouse (.type "ValueError") = some true
  ms_BadHouse : PySem.W.mroIn K t.C_BadHouse (.ref t.C_BadHouse) = some true
  mg_OtherDoors : mg "OtherDoors" = some (.ref t.C_OtherDoors)
  ex_OtherDoors : ExcK K "OtherDoors" t.C_OtherDoors
  cl_OtherDoors : PySem.W.isClsIn K t.C_OtherDoors = true
  ty_OtherDoors : PySem.W.typeIn K (.ref t.C_OtherDoors) = some (.type "type")
  mv_OtherDoors : PySem.W.mroIn K t.C_OtherDoors (.type "ValueError") = some true
  ms_OtherDoors : PySem.W.mroIn K t.C_OtherDoors (.ref t.C_OtherDoors) = some true
  mg_TooGreat : mg "TooGreat" = some (.ref t.C_TooGreat)
  ex_TooGreat : ExcK K "TooGreat" t.C_TooGreat
  cl_TooGreat : PySem.W.isClsIn K t.C_TooGreat = true
  ty_TooGreat : PySem.W.typeIn K (.ref t.C_TooGreat) = some (.type "type")
  mv_TooGreat : PySem.W.mroIn K t.C_TooGreat (.type "ValueError") = some true
  ms_TooGreat : PySem.W.mroIn K t.C_TooGreat (.ref t.C_TooGreat) = some true
  mb_HouseError : PySem.W.mroIn K t.C_HouseError (.type "BaseException") = some true
  mb_BadHouse : PySem.W.mroIn K t.C_BadHouse (.type "BaseException") = some true
  mb_OtherDoors : PySem.W.mroIn K t.C_OtherDoors (.type "BaseException") = some true
  mb_TooGreat : PySem.W.mroIn K t.C_TooGreat (.type "BaseException") = some true
  mr_OtherDoors_HouseError : PySem.W.mroIn K t.C_OtherDoors (.ref t.C_HouseError) = some true
  mr_HouseError_OtherDoors : PySem.W.mroIn K t.C_HouseError (.ref t.C_OtherDoors) = some false
  mr_TooGreat_HouseError : PySem.W.mroIn K t.C_TooGreat (.ref t.C_HouseError) = some true
  mr_HouseError_TooGreat : PySem.W.mroIn K t.C_HouseError (.ref t.C_TooGreat) = some false
  mr_OtherDoors_TooGreat : PySem.W.mroIn K t.C_OtherDoors (.ref t.C_TooGreat) = some false
  mr_TooGreat_OtherDoors : PySem.W.mroIn K t.C_TooGreat (.ref t.C_OtherDoors) = some false
  mr_OtherDoors_BadHouse : PySem.W.mroIn K t.C_OtherDoors (.ref t.C_BadHouse) = some false
  mr_TooGreat_BadHouse : PySem.W.mroIn K t.C_TooGreat (.ref t.C_BadHouse) = some false
  tg : PySem.W.specialIn K (.builtin "object.__class__") "__get__" = some (some (.builtin "getset_descriptor.__get__"))
  tt : PySem.W.takesIn K (.builtin "object.__class__") = some true
  mg_check_doors : mg "check_doors" = some (.ref t.f_check_doors)
  F_check_doors : Fun K "check_doors" "check_doors" s_check_doors t.f_check_doors t.fd_check_doors
  mg_check_house : mg "check_house" = some (.ref t.f_check_house)
  F_check_house : Fun K "check_house" "check_house" s_check_house t.f_check_house t.fd_check_house
  F_House_init : Fun K "__init__" "House.__init__" s_House_init t.f_House_init t.fd_House_init
  mk_House : Mk K t.C_House t.f_House_init
  F_House_rooms : Fun K "rooms" "House.rooms" s_House_rooms t.f_House_rooms t.fd_House_rooms
  me_House_rooms : Meth K t.C_House "rooms" t.f_House_rooms
  mg_check_same_doors : mg "check_same_doors" = some (.ref t.f_check_same_doors)
  F_check_same_doors : Fun K "check_same_doors" "check_same_doors" s_check_same_doors t.f_check_same_doors t.fd_check_same_doors
  mg_pairs_ahead : mg "pairs_ahead" = some (.ref t.f_pairs_ahead)
  F_pairs_ahead : Fun K "pairs_ahead" "pairs_ahead" s_pairs_ahead t.f_pairs_ahead t.fd_pairs_ahead
  mg_numbers_of_pairs : mg "numbers_of_pairs" = some (.ref t.f_numbers_of_pairs)
  F_numbers_of_pairs : Fun K "numbers_of_pairs" "numbers_of_pairs" s_numbers_of_pairs t.f_numbers_of_pairs t.fd_numbers_of_pairs
  mg_truth_of : mg "truth_of" = some (.ref t.f_truth_of)
  F_truth_of : Fun K "truth_of" "truth_of" s_truth_of t.f_truth_of t.fd_truth_of
  mg_mixed : mg "mixed" = some (.ref t.f_mixed)
  F_mixed : Fun K "mixed" "mixed" s_mixed t.f_mixed t.fd_mixed
  mg_l_cell_at : mg "_law_cell_at" = some (.ref t.f_l_cell_at)
  F_l_cell_at : Fun K "_law_cell_at" "_law_cell_at" s_l_cell_at t.f_l_cell_at t.fd_l_cell_at
  mg_l_draw : mg "_law_draw" = some (.ref t.f_l_draw)
  F_l_draw : Fun K "_law_draw" "_law_draw" s_l_draw t.f_l_draw t.fd_l_draw
  mg_l_ways_by : mg "_law_ways_by" = some (.ref t.f_l_ways_by)
  F_l_ways_by : Fun K "_law_ways_by" "_law_ways_by" s_l_ways_by t.f_l_ways_by t.fd_l_ways_by
  mg_l_lamps_by : mg "_law_lamps_by" = some (.ref t.f_l_lamps_by)
  F_l_lamps_by : Fun K "_law_lamps_by" "_law_lamps_by" s_l_lamps_by t.f_l_lamps_by t.fd_l_lamps_by
  mg_l_whole : mg "_law_whole" = some (.ref t.f_l_whole)
  F_l_whole : Fun K "_law_whole" "_law_whole" s_l_whole t.f_l_whole t.fd_l_whole
  mg_l_numbers : mg "_law_numbers" = some (.ref t.f_l_numbers)
  F_l_numbers : Fun K "_law_numbers" "_law_numbers" s_l_numbers t.f_l_numbers t.fd_l_numbers
  mg_l_truths : mg "_law_truths" = some (.ref t.f_l_truths)
  F_l_truths : Fun K "_law_truths" "_law_truths" s_l_truths t.f_l_truths t.fd_l_truths
  mg_l_house_is : mg "_law_house_is" = some (.ref t.f_l_house_is)
  F_l_house_is : Fun K "_law_house_is" "_law_house_is" s_l_house_is t.f_l_house_is t.fd_l_house_is
  mg_l_stands_under : mg "_law_stands_under" = some (.ref t.f_l_stands_under)
  F_l_stands_under : Fun K "_law_stands_under" "_law_stands_under" s_l_stands_under t.f_l_stands_under t.fd_l_stands_under
  mg_l_mixture : mg "_law_mixture" = some (.ref t.f_l_mixture)
  F_l_mixture : Fun K "_law_mixture" "_law_mixture" s_l_mixture t.f_l_mixture t.fd_l_mixture
  mg_l_name : mg "_law_name" = some (.ref t.f_l_name)
  F_l_name : Fun K "_law_name" "_law_name" s_l_name t.f_l_name t.fd_l_name
  mg_law : mg "law" = some (.ref t.f_law)
  F_law : Fun K "law" "law" s_law t.f_law t.fd_law
section
variable {P : Program} {w : World} {K : PySem.W.Frag} {mg : Str → Option Value} {base : Heap} {t : Adr}
/-! #### check_doors -/
theorem sc_check_doors : FnScope ["doors"] ["doors"] (defScope s_check_doors) := ⟨rfl, rfl, rfl, by decide +kernel, rfl, by decide +kernel, by decide +kernel⟩
theorem b_check_doors (T : Txt K mg t) : Binds K t.fd_check_doors ["doors"] [] := T.F_check_doors.binds fun _ _ _ _ _ _ us hl => by obtain ⟨_, rfl⟩ := len_1 hl; rfl
def sp_check_doors : Sp := fun vs H Q _ => ∃ d : Int, vs = [.int d] ∧ 1 ≤ d ∧ d ≤ 6 ∧ Q .non H
theorem ok_check_doors (T : Txt K mg t) : FnOk P w K mg base CX0 1 t.f_check_doors t.fd_check_doors ["doors"] (sp_check_doors) := by
  refine T.F_check_doors.ok sc_check_doors (fun vs H Q E h => ?_) (fun cdv A outer s H vs Q E hr h => ?_)
  · obtain ⟨d, rfl, _⟩ := h
    rfl
  · obtain ⟨d, rfl, hd1, hd6, q⟩ := h
    refine ⟨_, pss_one (ps_if (pt_not (pt_chain op_le op_le (pe_int) (pv 0) (pe_glob (v := .int 6) rfl T.mg_MOST_DOORS.choose_spec ⟨_, rfl⟩)))
 (pss_one (ps_never))
 (pss_nil)), ?_⟩
    repeat walk_at "sx"
    refine r_iteP (decide_eq_true hd1) ?_
    repeat walk_at "sx"
    refine r_iteN (by simp [hd6]) ?_
    repeat walk_at "sx"
    exact q
/-! #### check_house -/
theorem sc_check_house : FnScope ["doors", "ways", "lamps", "rooms", "room", "row", "way"] ["doors", "ways", "lamps"] (defScope s_check_house) := ⟨rfl, rfl, rfl, by decide +kernel, rfl, by decide +kernel, by decide +kernel⟩
theorem b_check_house (T : Txt K mg t) : Binds K t.fd_check_house ["doors", "ways", "lamps"] [] := T.F_check_house.binds fun _ _ _ _ _ _ us hl => by obtain ⟨_, _, _, rfl⟩ := len_3 hl; rfl
def sp_check_house (K : PySem.W.Frag) : Sp := fun vs H Q _ => ∃ (d : Int) (a : Addr) (rs : List Addr) (rss : List (List Int)) (l : Addr) (ls : List Bool), vs = [.int d, .ref a, .ref l] ∧ Mat H a rs rss ∧ SqL K H l (ls.map V.bl) ∧ Valid d rss ls ∧
  ∀ H', Same H H' → Q .non H'
theorem ok_check_house (T : Txt K mg t) : FnOk P w K mg base CX0 2 t.f_check_house t.fd_check_house ["doors", "ways", "lamps"] (sp_check_house K) := by
  refine T.F_check_house.ok sc_check_house (fun vs H Q E h => ?_) (fun cdv A outer s H vs Q E hr h => ?_)
  · obtain ⟨d, a, rs, rss, l, ls, rfl, _⟩ := h
    rfl
  · obtain ⟨d, a, rs, rss, l, ls, rfl, M, hL, Vd, q⟩ := h
    have hd1 := Vd.d1
    have hd6 := Vd.d6
    have hr1 := Vd.r1
    have hr4 := Vd.r400
    have hll := Vd.ll
    have hlen : (rs.map V.ref).length = rss.length := by rw [List.length_map, M.len]
    refine ⟨_, pss_cons (ps_expr (pe_call (ok_check_doors T) (hr.mono (by decide)) rfl T.mg_check_doors T.F_check_doors.kp (b_check_doors T) .nil pass0 (pa_cons (pv 0) (pa_nil))))
 (pss_cons (ps_set (i := 3) sc_check_house.nd rfl (Or.inl rfl) (pe_callB (call_len_seqK K) rfl T.m_len PySem.boot_len (pa_cons (pv 1) (pa_nil))))
 (pss_cons (ps_if (pt_not (pt_chain op_le op_le (pe_int) (pv 3) (pe_glob (v := .int 400) rfl T.mg_MOST_ROOMS.choose_spec ⟨_, rfl⟩)))
 (pss_one (ps_never))
 (pss_nil))
 (pss_cons (ps_if (pt_cmpR op_ne (pe_callB (call_len_seqK K) rfl T.m_len PySem.boot_len (pa_cons (pv 2) (pa_nil))) (pv 3) (nomark _))
 (pss_one (ps_never))
 (pss_nil))
 (pss_one (ps_for PassesOwn.never rfl (pi_enumK K rfl T.m_enumerate (pa_cons (pv 1) (pa_nil))) (pg_tupK K (n := 2) rfl (pgs_cons (pg_name (i := 4) sc_check_house.nd rfl (Or.inl rfl)) (pgs_cons (pg_name (i := 5) sc_check_house.nd rfl (Or.inl rfl)) (pgs_nil))))
 (pss_cons (ps_if (pt_cmpR op_ne (pe_callB (call_len_seqK K) rfl T.m_len PySem.boot_len (pa_cons (pv 5) (pa_nil))) (pv 0) (nomark _))
 (pss_one (ps_never))
 (pss_nil))
 (pss_one (ps_for PassesOwn.never rfl (pi_listK K (pv 5)) (pg_name (i := 6) sc_check_house.nd rfl (Or.inl rfl))
 (pss_one (ps_if (pt_not (pt_chain op_le op_lt (pe_int) (pv 6) (pv 3)))
 (pss_one (ps_never))
 (pss_nil))))))))))), ?_⟩
    repeat walk_at "sx"
    refine ⟨d, rfl, hd1, hd6, ?_⟩
    repeat walk_at "sx"
    refine ⟨a, _, rfl, .inl (SqL.of M.top), ?_⟩
    rw [hlen]
    repeat walk_at "sx"
    refine r_iteP (decide_eq_true (by omega)) ?_
    repeat walk_at "sx"
    refine r_iteN (by simp; omega) ?_
    repeat walk_at "sx"
    refine ⟨l, _, rfl, .inl hL, ?_⟩
    repeat walk_at "sx"
    refine r_ne rfl ?_
    repeat walk_at "sx"
    refine r_iteN (by simp [hll]) ?_
    repeat walk_at "sx"
    refine ⟨a, rfl, ⟨_, SqL.of M.top⟩, ?_⟩
    refine for_enum (xs := rs.map V.ref) (fun i σ H' => Same H H' ∧ ∃ k1 k2 k3, σ = [some (.int d), some (.ref a), some (.ref l), some (.int (rss.length : Int)), k1, k2, k3]) ⟨Same.refl H, none, none, none, rfl⟩ (fun i σ H' _ p => sqL_same p.1 (SqL.of M.top)) (fun i x σ H' tp hx p ht => ?_) (fun σ H' p => ?_)
    · obtain ⟨hs, k1, k2, k3, rfl⟩ := p
      obtain ⟨r, rfl, hr'⟩ := ref_map_inv hx
      obtain ⟨hi, _⟩ := List.getElem?_eq_some_iff.mp hr'
      have hi' : i < rss.length := by rw [← M.len]; exact hi
      have hrow := M.row i r rss[i] hr' (List.getElem?_eq_getElem hi')
      have hs' : Same H (upd H' tp (.tup [.int (i : Int), .ref r])) := hs.trans (Same.upd_new ht)
      obtain ⟨hw1, hw2⟩ := Vd.row rss[i] (List.getElem_mem hi')
      refine ⟨tp, _, rfl, SqT.of upd_same, rfl, _, _, rfl, ?_⟩
      repeat walk_at "sx"
      refine ⟨_, _, rfl, ?_⟩
      repeat walk_at "sx"
      refine ⟨rfl, ?_⟩
      repeat walk_at "sx"
      refine ⟨r, _, rfl, .inl (SqL.of (hs' _ _ hrow)), ?_⟩
      repeat walk_at "sx"
      refine r_ne rfl ?_
      repeat walk_at "sx"
      refine r_iteN (by simp [hw1]) ?_
      repeat walk_at "sx"
      refine ⟨r, rfl, ⟨_, SqL.of (hs' _ _ hrow)⟩, ?_⟩
      refine for_list (xs := rss[i].map V.int) (fun j σ H2 => H2 = upd H' tp (.tup [.int (i : Int), .ref r]) ∧ ∃ k3, σ = [some (.int d), some (.ref a), some (.ref l), some (.int (rss.length : Int)), some (.int (i : Int)), some (.ref r), k3]) ⟨rfl, _, rfl⟩ (fun j σ H2 _ p => by rw [p.1]; exact SqL.of (hs' _ _ hrow)) (fun j x σ H2 hx p => ?_) (fun σ H2 p => ?_)
      · obtain ⟨rfl, k3, rfl⟩ := p
        have hx0 := int_map_inv hx
        clear hx
        obtain ⟨x, rfl, hx⟩ := hx0
        obtain ⟨x0, x1⟩ := hw2 x (List.mem_of_getElem? hx)
        repeat walk_at "sx"
        refine r_iteP (decide_eq_true x0) ?_
        repeat walk_at "sx"
        refine r_iteN (by simp [x1]) ?_
        repeat walk_at "sx"
        exact ⟨rfl, _, rfl⟩
      · obtain ⟨rfl, k3, rfl⟩ := p
        exact ⟨hs', _, _, _, rfl⟩
    · obtain ⟨hs, k1, k2, k3, rfl⟩ := p
      exact q H' hs
/-! #### House_init -/
theorem sc_House_init : FnScope ["self", "doors", "ways", "lamps"] ["self", "doors", "ways", "lamps"] (defScope s_House_init) := ⟨rfl, rfl, rfl, by decide +kernel, rfl, by decide +kernel, by decide +kernel⟩
theorem b_House_init (T : Txt K mg t) : Binds K t.fd_House_init ["self", "doors", "ways", "lamps"] [] := T.F_House_init.binds fun _ _ _ _ _ _ us hl => by obtain ⟨_, _, _, _, rfl⟩ := len_4 hl; rfl
def sp_House_init (K : PySem.W.Frag) (C : Addr) : Sp := fun vs H Q _ => ∃ (p dx : Addr) (d : Int) (a : Addr) (rs : List Addr) (rss : List (List Int)) (l : Addr) (ls : List Bool), vs = [.ref p, .int d, .ref a, .ref l] ∧ H p = some (.ins C dx []) ∧ Mat H a rs rss ∧ SqL K H l (ls.map V.bl) ∧ Valid d rss ls ∧
  ∀ (H' : Hp) (aw : Addr) (rs' : List Addr) (al : Addr), HouseAt C H' p d aw rs' rss al ls → (∀ b o, H b = some o → b ≠ p → H' b = some o) → (∀ b ∈ al :: aw :: rs', H b = none) → Q .non H'
theorem ok_House_init (T : Txt K mg t) : FnOk P w K mg base CX0 3 t.f_House_init t.fd_House_init ["self", "doors", "ways", "lamps"] (sp_House_init K t.C_House) := by
  refine T.F_House_init.ok sc_House_init (fun vs H Q E h => ?_) (fun cdv A outer s H vs Q E hr h => ?_)
  · obtain ⟨p, dx, d, a, rs, rss, l, ls, rfl, _⟩ := h
    rfl
  · obtain ⟨p, dx, d, a, rs, rss, l, ls, rfl, hp, M, hL, Vd, q⟩ := h
    refine ⟨_, pss_cons (ps_expr (pe_call (ok_check_house T) (hr.mono (by decide)) rfl T.mg_check_house T.F_check_house.kp (b_check_house T) .nil pass0 (pa_cons (pv 1) (pa_cons (pv 2) (pa_cons (pv 3) (pa_nil))))))
 (pss_cons (ps_fldK K (pv 0) (pv 1) rfl)
 (pss_cons (ps_fldK K (pv 0) (pe_comp (N := ["self", "doors", "ways", "lamps"]) (sc0 := (defScope s_House_init)) (N' := ["row"]) (caps := [none]) (by exact ⟨rfl, by decide +kernel, by decide +kernel, by decide +kernel, rfl, rfl, by decide +kernel⟩) rfl (pi_listK K (pv 2)) (fun _ _ _ _ _ _ => pg_name (i := 0) (show List.Nodup (["row"] : List Str) from by decide +kernel) rfl (Or.inl rfl)) (fun _ _ _ _ _ _ => pe_callTy (call_list_ofK K) rfl T.m_list boot_list (pa_cons (pv 0) (pa_nil)))) rfl)
 (pss_one (ps_fldK K (pv 0) (pe_callTy (call_list_ofK K) rfl T.m_list boot_list (pa_cons (pv 3) (pa_nil))) rfl)))), ?_⟩
    repeat walk_at "sx"
    refine ⟨d, a, rs, rss, l, ls, rfl, M, hL, Vd, fun H1 hs1 => ?_⟩
    repeat walk_at "sx"
    refine ⟨p, _, dx, _, rfl, hs1 _ _ hp, T.cl_House, T.na_House_doors, (by show 0 < 1000; decide), ?_⟩
    repeat walk_at "sx"
    -- the heap with the first field stored
    have hpa : ∀ {b : Addr} {xs : List V}, H b = some (.lst xs) → b ≠ p := fun e => ne_of e hp (by intro z; cases z)
    have k1 : ∀ (b : Addr) (o : HO), H b = some o → b ≠ p → (upd H1 p (.ins t.C_House dx (putF "doors" (.int d) []))) b = some o := fun b o e hb => by rw [upd_ne hb]; exact hs1 b o e
    have n1 : ∀ b, (upd H1 p (.ins t.C_House dx (putF "doors" (.int d) []))) b = none → H b = none := fun b e => by
      by_cases hb : b = p
      · subst hb; rw [upd_same] at e; cases e
      · rw [upd_ne hb] at e; exact hs1.free e
    generalize hH2 : upd H1 p (.ins t.C_House dx (putF "doors" (.int d) [])) = H2 at k1 n1 ⊢
    have hp2 : H2 p = some (.ins t.C_House dx (putF "doors" (.int d) [])) := by rw [← hH2]; exact upd_same
    have M2 : Mat H2 a rs rss := ⟨k1 _ _ M.top (hpa M.top), M.len, fun i r row h1 h2 => k1 _ _ (M.row i r row h1 h2) (hpa (M.row i r row h1 h2)), M.nd⟩
    refine ⟨a, rfl, ⟨_, SqL.of M2.top⟩, ?_⟩
    have h400 := Vd.r400
    refine comp_copy M2 (by omega) fun aw rs' H' hs3 M3 new3 => ?_
    have G : Same H2 H' := hs3
    (
      have hp3 : H' p = some (.ins t.C_House dx (putF "doors" (.int d) [])) := G _ _ hp2
      repeat walk_at "sx"
      refine ⟨p, _, dx, _, rfl, hp3, T.cl_House, T.na_House_ways, (by show 1 < 1000; decide), ?_⟩
      repeat walk_at "sx"
      have hl3 : SqL K H l (ls.map V.bl) := hL
      have hlist : SqL K (upd H' p (.ins t.C_House dx (putF "ways" (.ref aw) (putF "doors" (.int d) [])))) l (ls.map V.bl) := by
        rcases hL with (hL | ⟨ob, hL⟩) | hL
        · exact .inl (.inl (by rw [upd_ne (hpa hL)]; exact G _ _ (k1 _ _ hL (hpa hL))))
        · have hne : l ≠ p := ne_of hL hp (by intro z; cases z)
          exact .inl (.inr ⟨ob, by rw [upd_ne hne]; exact G _ _ (k1 _ _ hL hne)⟩)
        · exact .inr hL
      refine ⟨l, _, rfl, .inl hlist, fun al hal => ?_⟩
      repeat walk_at "sx"
      have npa : p ≠ al := fun z => by rw [z, upd_same] at hal; cases hal
      have hal' : H' al = none := by rw [upd_ne (Ne.symm npa)] at hal; exact hal
      refine ⟨p, _, dx, _, rfl, (by rw [upd_ne npa]; exact upd_same), T.cl_House, T.na_House_lamps, (by have h1 := length_putF "ways" (.ref aw) (putF "doors" (.int d) []); have h2 := length_putF "doors" (.int d) []; simp only [List.length_nil] at h2; omega), ?_⟩
      have hpm : p ∉ aw :: rs' := fun hm => by have := new3 p hm; rw [hp2] at this; cases this
      have ham : al ∉ aw :: rs' := fun hm => by obtain ⟨o, e⟩ := M3.mem hm; rw [e] at hal'; cases hal'
      refine q _ aw rs' al ⟨⟨dx, upd_same⟩, ((M3.upd hpm).upd ham).upd hpm, ?_⟩ (fun b o e hb => ?_) (fun b hb => ?_)
      · rw [upd_ne (Ne.symm npa), upd_same]
      · have e2 := G _ _ (k1 b o e hb)
        rw [upd_ne hb, upd_ne (ne_of_none e2 hal'), upd_ne hb]
        exact e2
      · rcases List.mem_cons.mp hb with rfl | hb
        · exact n1 _ (G.free hal')
        · exact n1 _ (new3 b hb)
    )
/-! #### House_rooms -/
/-! #### check_same_doors -/
theorem sc_check_same_doors : FnScope ["one", "other"] ["one", "other"] (defScope s_check_same_doors) := ⟨rfl, rfl, rfl, by decide +kernel, rfl, by decide +kernel, by decide +kernel⟩
theorem b_check_same_doors (T : Txt K mg t) : Binds K t.fd_check_same_doors ["one", "other"] [] := T.F_check_same_doors.binds fun _ _ _ _ _ _ us hl => by obtain ⟨_, _, rfl⟩ := len_2 hl; rfl
def sp_check_same_doors (C CO : Addr) : Sp := fun vs H Q E => ∃ (p : Addr) (d : Int) (aw : Addr) (rs : List Addr) (rss : List (List Int)) (al : Addr) (ls : List Bool) (p2 : Addr) (d2 : Int) (aw2 : Addr) (rs2 : List Addr) (rss2 : List (List Int)) (al2 : Addr) (ls2 : List Bool), vs = [.ref p, .ref p2] ∧ HouseAt C H p d aw rs rss al ls ∧ HouseAt C H p2 d2 aw2 rs2 rss2 al2 ls2 ∧ (d = d2 → Q .non H) ∧ (d ≠ d2 → E (.ref CO) none H)
theorem ok_check_same_doors (T : Txt K mg t) : FnOk P w K mg base (CXr P w) 1 t.f_check_same_doors t.fd_check_same_doors ["one", "other"] (sp_check_same_doors t.C_House t.C_OtherDoors) := by
  refine T.F_check_same_doors.okX sc_check_same_doors (fun vs H Q E h => ?_) (fun cdv A outer s H vs Q E hr h => ?_)
  · obtain ⟨p, d, aw, rs, rss, al, ls, p2, d2, aw2, rs2, rss2, al2, ls2, rfl, _⟩ := h
    rfl
  · obtain ⟨p, d, aw, rs, rss, al, ls, p2, d2, aw2, rs2, rss2, al2, ls2, rfl, hh, hh2, q, qe⟩ := h
    obtain ⟨dx, ho⟩ := hh.ob
    obtain ⟨dx2, ho2⟩ := hh2.ob
    refine ⟨_, pss_one (ps_if (pt_cmpR op_ne (pe_fldK K (pv 0) rfl) (pe_fldK K (pv 1) rfl) (nomark _))
 (pss_one (ps_raise xm_def rfl rfl T.mg_OtherDoors T.ex_OtherDoors.toExcCls (pa_cons (pe_str) (pa_nil))))
 (pss_nil)), ?_⟩
    repeat walk_at "sx"
    refine ⟨_, rfl, p, _, dx, _, _, rfl, ho, T.cl_House, T.na_House_doors, hfs_doors _ _ _, ?_⟩
    repeat walk_at "sx"
    refine ⟨_, rfl, p2, _, dx2, _, _, rfl, ho2, T.cl_House, T.na_House_doors, hfs_doors _ _ _, ?_⟩
    refine r_ne rfl ?_
    repeat walk_at "sx"
    refine r_ite (fun hc => ?_) (fun hc => ?_)
    · repeat walk_at "sx"
      exact ⟨show 1 ≤ sizeLine by decide, qe (fun z => by rw [z] at hc; simp at hc)⟩
    · repeat walk_at "sx"
      exact q (by simpa using hc)
/-! #### pairs_ahead -/
theorem sc_pairs_ahead : FnScope ["one", "other", "pair"] ["one", "other", "pair"] (defScope s_pairs_ahead) := ⟨rfl, rfl, rfl, by decide +kernel, rfl, by decide +kernel, by decide +kernel⟩
theorem b_pairs_ahead (T : Txt K mg t) : Binds K t.fd_pairs_ahead ["one", "other", "pair"] [] := T.F_pairs_ahead.binds fun _ _ _ _ _ _ us hl => by obtain ⟨_, _, _, rfl⟩ := len_3 hl; rfl
def kP (p : Int × Int) : List Key := [.inl p.1, .inl p.2]
structure Two (C : Addr) (H : Hp) (p1 p2 : Addr) (d : Int) (rss sss : List (List Int)) (ls ls2 : List Bool) : Prop where
  one : ∃ aw rs al, HouseAt C H p1 d aw rs rss al ls
  two : ∃ aw rs al, HouseAt C H p2 d aw rs sss al ls2
  V1 : Valid d rss ls
  V2 : Valid d sss ls2
theorem Two.same {C : Addr} {H H' : Hp} {p1 p2 : Addr} {d : Int} {rss sss : List (List Int)} {ls ls2 : List Bool} (h : Two C H p1 p2 d rss sss ls ls2) (e : Same H H') : Two C H' p1 p2 d rss sss ls ls2 :=
  ⟨let ⟨a, b, c, q⟩ := h.one; ⟨a, b, c, q.same e⟩, let ⟨a, b, c, q⟩ := h.two; ⟨a, b, c, q.same e⟩, h.V1, h.V2⟩
def sp_pairs_ahead (K : PySem.W.Frag) (C : Addr) : Sp := fun vs H Q _ => ∃ (p1 p2 : Addr) (d : Int) (rss sss : List (List Int)) (ls ls2 : List Bool) (pa : Addr) (p : Int × Int), vs = [.ref p1, .ref p2, .ref pa] ∧ Two C H p1 p2 d rss sss ls ls2 ∧ H pa = some (.tup [.int p.1, .int p.2]) ∧ InP rss sss p ∧
  ∀ (l : Addr) (ts : List Addr) (H2 : Hp), Same H H2 → H l = none → H2 l = some (.lst (ts.map V.ref)) → ts.length = (ahead rss sss p).length → (∀ t ∈ ts, H t = none) → (∀ (j : Nat) t q, ts[j]? = some t → (ahead rss sss p)[j]? = some q → H2 t = some (.tup [.int q.1, .int q.2])) → Q (.ref l) H2
theorem ok_pairs_ahead (T : Txt K mg t) : FnOk P w K mg base CX0 1 t.f_pairs_ahead t.fd_pairs_ahead ["one", "other", "pair"] (sp_pairs_ahead K t.C_House) := by
  refine T.F_pairs_ahead.ok sc_pairs_ahead (fun vs H Q E h => ?_) (fun cdv A outer s H vs Q E hr h => ?_)
  · obtain ⟨p1, p2, d, rss, sss, ls, ls2, pa, p, rfl, _⟩ := h
    rfl
  · obtain ⟨p1, p2, d, rss, sss, ls, ls2, pa, p, rfl, tw, hpa, hin, q⟩ := h
    obtain ⟨aw, rs, al, hh1⟩ := tw.one
    obtain ⟨aw2, rs2, al2, hh2⟩ := tw.two
    obtain ⟨dx1, ho1⟩ := hh1.ob
    obtain ⟨dx2, ho2⟩ := hh2.ob
    obtain ⟨⟨x0, x1⟩, y0, y1⟩ := hin
    have hx : p.1.toNat < rss.length := by omega
    have hy : p.2.toNat < sss.length := by omega
    obtain ⟨r1, e1, e1', hr1⟩ := hh1.ways.get (List.getElem?_eq_getElem hx)
    obtain ⟨r2, e2, e2', hr2⟩ := hh2.ways.get (List.getElem?_eq_getElem hy)
    have w1 := (tw.V1.row _ (List.getElem_mem hx)).1
    have w2 := (tw.V2.row _ (List.getElem_mem hy)).1
    have hd1 := tw.V1.d1
    have hd6 := tw.V1.d6
    have ea : ahead rss sss p = (rss[p.1.toNat]).zip (sss[p.2.toNat]) := by
      unfold ahead rowI
      rw [List.getD_eq_getElem?_getD, List.getD_eq_getElem?_getD, List.getElem?_eq_getElem hx, List.getElem?_eq_getElem hy]; rfl
    rw [ea] at q
    generalize rss[p.1.toNat] = row1 at hr1 w1 q
    generalize sss[p.2.toNat] = row2 at hr2 w2 q
    refine ⟨_, pss_one (ps_ret (pe_listzip K rfl rfl T.m_list rfl T.m_zip (pa_cons (pe_ix (ix_listK K) (pe_fldK K (pv 0) rfl) (pe_ix (ix_tupK K) (pv 2) (pe_int) (fun _ _ => rfl)) (fun _ _ => rfl)) (pa_cons (pe_ix (ix_listK K) (pe_fldK K (pv 1) rfl) (pe_ix (ix_tupK K) (pv 2) (pe_int) (fun _ _ => rfl)) (fun _ _ => rfl)) (pa_nil))))), ?_⟩
    repeat walk_at "sx"
    refine ⟨_, rfl, p1, _, dx1, _, _, rfl, ho1, T.cl_House, T.na_House_ways, hfs_ways _ _ _, ?_⟩
    repeat walk_at "sx"
    refine ⟨pa, _, 0, _, rfl, rfl, SqT.of hpa, atI_nat (j := 0) rfl, ?_⟩
    refine r_ixL (SqL.of hh1.ways.top) (atI_get' x0 e1') ?_
    repeat walk_at "sx"
    refine ⟨_, rfl, p2, _, dx2, _, _, rfl, ho2, T.cl_House, T.na_House_ways, hfs_ways _ _ _, ?_⟩
    repeat walk_at "sx"
    refine ⟨pa, _, 1, _, rfl, rfl, SqT.of hpa, atI_nat (j := 1) rfl, ?_⟩
    refine r_ixL (SqL.of hh2.ways.top) (atI_get' y0 e2') ?_
    repeat walk_at "sx"
    refine ⟨r1, r2, _, _, rfl, SqL.of hr1, SqL.of hr2, by rw [List.length_map, List.length_map]; omega, by rw [List.length_map]; omega, by rw [List.length_map]; omega, fun l ts H2 s2 hl hl2 hlen nl nd fr et => ?_⟩
    refine q l ts H2 s2 hl hl2 (by rw [hlen, List.length_map, List.length_zip]; omega) fr fun j t g h1 h2 => ?_
    obtain ⟨g1, g2⟩ := List.getElem?_zip_eq_some.mp h2
    exact et j t _ _ h1 (by rw [List.getElem?_map, g1]; rfl) (by rw [List.getElem?_map, g2]; rfl)
/-! #### numbers_of_pairs -/
theorem sc_numbers_of_pairs : FnScope ["one", "other", "numbers", "pairs", "at", "pair"] ["one", "other"] (defScope s_numbers_of_pairs) := ⟨rfl, rfl, rfl, by decide +kernel, rfl, by decide +kernel, by decide +kernel⟩
theorem b_numbers_of_pairs (T : Txt K mg t) : Binds K t.fd_numbers_of_pairs ["one", "other"] [] := T.F_numbers_of_pairs.binds fun _ _ _ _ _ _ us hl => by obtain ⟨_, _, rfl⟩ := len_2 hl; rfl
def numKV (L : List (Int × Int)) (k : Nat) : List (List Key × V) := (L.zipIdx k).map fun e => (kP e.1, .int ((e.2 : Nat) : Int))
theorem kP_inj {p q : Int × Int} (h : kP p = kP q) : p = q := by
  unfold kP at h
  simp only [List.cons.injEq, Sum.inl.injEq, and_true] at h
  exact Prod.ext h.1 h.2
theorem val_num (q : Int × Int) : ∀ (L : List (Int × Int)) (k : Nat), valV (numKV L k) (kP q) = if q ∈ L then some (.int ((k + L.idxOf q : Nat) : Int)) else none
  | [], k => by simp [numKV, valV_nil]
  | p :: r, k => by
    have e : numKV (p :: r) k = (kP p, .int ((k : Nat) : Int)) :: numKV r (k + 1) := by simp [numKV, List.zipIdx_cons]
    rw [e]
    by_cases h : p = q
    · subst h
      rw [valV_pos rfl, if_pos (by simp)]
      simp [List.idxOf_cons]
    · rw [valV_neg (fun z => h (kP_inj z)), val_num q r (k + 1)]
      have hb : (p == q) = false := beq_eq_false_iff_ne.mpr h
      by_cases hq : q ∈ r
      · rw [if_pos hq, if_pos (by simp [hq]), List.idxOf_cons, hb]
        simp only [cond_false]
        congr 3; omega
      · rw [if_neg hq, if_neg (by simp [hq, Ne.symm h])]
theorem num_snoc (L : List (Int × Int)) (q : Int × Int) : numKV (L ++ [q]) 0 = numKV L 0 ++ [(kP q, .int (L.length : Nat))] := by
  unfold numKV
  rw [List.zipIdx_append, List.map_append]
  simp
theorem numKV_len (L : List (Int × Int)) (k : Nat) : (numKV L k).length = L.length := by simp [numKV]
structure NP (H H' : Hp) (nd pl : Addr) (L : List (Int × Int)) (ts : List Addr) : Prop where
  same : Same H H'
  dict : H' nd = some (.dT (numKV L 0))
  list : H' pl = some (.lst (ts.map V.ref))
  len : ts.length = L.length
  tup : ∀ (i : Nat) t p, ts[i]? = some t → L[i]? = some p → H' t = some (.tup [.int p.1, .int p.2])
  n1 : H nd = none
  n2 : H pl = none
  ne : nd ≠ pl
theorem NP.tick {H H' H2 : Hp} {nd pl : Addr} {L : List (Int × Int)} {ts : List Addr} (B : NP H H' nd pl L ts) (s : Same H' H2) : NP H H2 nd pl L ts :=
  ⟨B.same.trans s, s _ _ B.dict, s _ _ B.list, B.len, fun i t p h1 h2 => s _ _ (B.tup i t p h1 h2), B.n1, B.n2, B.ne⟩
theorem NP.out {H H' : Hp} {nd pl : Addr} {L : List (Int × Int)} {ts : List Addr} (B : NP H H' nd pl L ts) {t : Addr} {xs : List V} (h : H' t = some (.tup xs)) : t ≠ nd ∧ t ≠ pl :=
  ⟨(fun z => by rw [z, B.dict] at h; cases h), (fun z => by rw [z, B.list] at h; cases h)⟩
theorem NP.add {H H' : Hp} {nd pl : Addr} {L : List (Int × Int)} {ts : List Addr} (B : NP H H' nd pl L ts) {t : Addr} {q : Int × Int} (ht : H' t = some (.tup [.int q.1, .int q.2])) : NP H (upd (upd H' nd (.dT (numKV L 0 ++ [(kP q, .int (L.length : Nat))]))) pl (.lst (ts.map V.ref ++ [.ref t]))) nd pl (L ++ [q]) (ts ++ [t]) := by
  have k : ∀ b o, b ≠ nd → b ≠ pl → H' b = some o → (upd (upd H' nd (.dT (numKV L 0 ++ [(kP q, .int (L.length : Nat))]))) pl (.lst (ts.map V.ref ++ [.ref t]))) b = some o := fun b o h1 h2 e => by rw [upd_ne h2, upd_ne h1]; exact e
  refine ⟨fun b o e => k b o (fun z => by rw [z, B.n1] at e; cases e) (fun z => by rw [z, B.n2] at e; cases e) (B.same b o e), by rw [upd_ne B.ne, upd_same, num_snoc], by rw [upd_same, List.map_append]; rfl, by simp [B.len], fun i u p h1 h2 => ?_, B.n1, B.n2, B.ne⟩
  by_cases hi : i < L.length
  · rw [List.getElem?_append_left (by rw [B.len]; exact hi)] at h1
    rw [List.getElem?_append_left hi] at h2
    have := B.tup i u p h1 h2
    exact k _ _ (B.out this).1 (B.out this).2 this
  · have hl := (List.getElem?_eq_some_iff.mp h2).1
    rw [List.length_append, List.length_singleton] at hl
    have hi2 : i = L.length := by omega
    subst hi2
    rw [← B.len, List.getElem?_append_right (Nat.le_refl _), Nat.sub_self] at h1
    rw [List.getElem?_append_right (Nat.le_refl _), Nat.sub_self] at h2
    cases h1; cases h2
    exact k _ _ (B.out ht).1 (B.out ht).2 ht
def sp_numbers_of_pairs (K : PySem.W.Frag) (C CT : Addr) : Sp := fun vs H Q E => ∃ (p1 p2 : Addr) (d : Int) (rss sss : List (List Int)) (ls ls2 : List Bool), vs = [.ref p1, .ref p2] ∧ Two C H p1 p2 d rss sss ls ls2 ∧
  ((finP rss sss).length ≤ 400 → ∀ H' nd, Same H H' → H nd = none → H' nd = some (.dT (numKV (finP rss sss) 0)) → Q (.ref nd) H') ∧
  (400 < (finP rss sss).length → ∀ H', Same H H' → E (.ref CT) none H')
theorem ok_numbers_of_pairs (T : Txt K mg t) : FnOk P w K mg base (CXr P w) 2 t.f_numbers_of_pairs t.fd_numbers_of_pairs ["one", "other"] (sp_numbers_of_pairs K t.C_House t.C_TooGreat) := by
  refine T.F_numbers_of_pairs.okX sc_numbers_of_pairs (fun vs H Q E h => ?_) (fun cdv A outer s H vs Q E hr h => ?_)
  · obtain ⟨p1, p2, d, rss, sss, ls, ls2, rfl, _⟩ := h
    rfl
  · obtain ⟨p1, p2, d, rss, sss, ls, ls2, rfl, tw, q, qe⟩ := h
    have W1 := tw.V1.toWays
    have W2 := tw.V2.toWays
    have r1 : 0 < rss.length := by have := tw.V1.r1; omega
    have r2 : 0 < sss.length := by have := tw.V2.r1; omega
    refine exO (pssO_consT (i := 2) hr.units1 sc_numbers_of_pairs.nd rfl (Or.inl rfl) (pe_tup (pa_cons (pe_int) (pa_cons (pe_int) (pa_nil)))) (pe_int)
 (pss_cons (ps_set (i := 3) sc_numbers_of_pairs.nd rfl (Or.inl rfl) (pe_lst (pa_cons (pe_tup (pa_cons (pe_int) (pa_cons (pe_int) (pa_nil)))) (pa_nil))))
 (pss_cons (ps_set (i := 4) sc_numbers_of_pairs.nd rfl (Or.inl rfl) (pe_int))
 (pss_cons (ps_while xp_def.own (pt_cmpR op_lt (pv 4) (pe_callB (call_len_seqK K) rfl T.m_len PySem.boot_len (pa_cons (pv 3) (pa_nil))) (nomark _))
 (pss_cons (ps_for xp_def.own rfl (pi_listK K (pe_call (ok_pairs_ahead T) (hr.mono (by decide)) rfl T.mg_pairs_ahead T.F_pairs_ahead.kp (b_pairs_ahead T) .nil pass0 (pa_cons (pv 0) (pa_cons (pv 1) (pa_cons (pe_ix (ix_listK K) (pv 3) (pv 4) (fun _ _ => rfl)) (pa_nil)))))) (pg_name (i := 5) sc_numbers_of_pairs.nd rfl (Or.inl rfl))
 (pss_one (ps_join (ps_if (pt_cmp (pc_dnotin hr.units1 (pv 5) (pv 2)))
 (pss_cons (ps_dput hr.units1 (pv 2) (pv 5) (pe_callB (call_len_seqK K) rfl T.m_len PySem.boot_len (pa_cons (pv 3) (pa_nil))) rfl)
 (pss_one (ps_expr (pe_bmK K PySem.F.plainAttrs_list PySem.F.slot_list_append PySem.F.type_list_append mt_append (pv 3) (pa_cons (pv 5) (pa_nil))))))
 (pss_nil)))))
 (pss_cons (ps_if (pt_cmpR op_gt (pe_callB (call_len_seqK K) rfl T.m_len PySem.boot_len (pa_cons (pv 3) (pa_nil))) (pe_glob (v := .int 400) rfl T.mg_MOST_ROOMS.choose_spec ⟨_, rfl⟩) (nomark _))
 (pss_one (ps_raise xm_def rfl rfl T.mg_TooGreat T.ex_TooGreat.toExcCls (pa_cons (pe_str) (pa_nil))))
 (pss_nil))
 (pss_one (ps_aug (i := 4) sc_numbers_of_pairs.nd rfl (Or.inl rfl) (pe_int) ip_add)))))
 (pss_one (ps_ret (pv 2))))))) ?_
    repeat walk_at "sx"
    intro nd hnd
    repeat walk_at "sx"
    refine ⟨by show 2 ≤ sizeLine; decide, fun tp htp => ?_⟩
    repeat walk_at "sx"
    have n_mt : nd ≠ tp := fun z => by rw [← z, upd_same] at htp; cases htp
    have f_tp : H tp = none := by rw [upd_ne (Ne.symm n_mt)] at htp; exact htp
    refine ⟨tp, [.inl 0, .inl 0], rfl, upd_same, by rw [upd_ne n_mt]; exact upd_same, ?_⟩
    have sA : Same H (upd (upd (upd H nd (.dT [])) tp (.tup [.int 0, .int 0])) nd (.dT [([.inl 0, .inl 0], .int 0)])) := ((Same.upd_new hnd).upd_fresh f_tp).upd_fresh hnd
    have dA : (upd (upd (upd H nd (.dT [])) tp (.tup [.int 0, .int 0])) nd (.dT [([.inl 0, .inl 0], .int 0)])) nd = some (.dT (numKV [(0, 0)] 0)) := upd_same
    generalize upd (upd (upd H nd (.dT [])) tp (.tup [.int 0, .int 0])) nd (.dT [([.inl 0, .inl 0], .int 0)]) = HA at sA dA ⊢
    clear htp n_mt f_tp
    repeat walk_at "sx"
    refine ⟨by show 2 ≤ sizeLine; decide, fun t0 ht0 => ?_⟩
    have sB : Same HA (upd HA t0 (.tup [.int 0, .int 0])) := Same.upd_new ht0
    have t0B : (upd HA t0 (.tup [.int 0, .int 0])) t0 = some (.tup [.int 0, .int 0]) := upd_same
    generalize upd HA t0 (.tup [.int 0, .int 0]) = HB at sB t0B ⊢
    repeat walk_at "sx"
    refine ⟨by show 1 ≤ sizeLine; decide, fun pl hpl => ?_⟩
    have sC : Same HB (upd HB pl (.lst [.ref t0])) := Same.upd_new hpl
    have plC : (upd HB pl (.lst [.ref t0])) pl = some (.lst ([t0].map V.ref)) := upd_same
    generalize upd HB pl (.lst [.ref t0]) = HC at sC plC ⊢
    have B0 : NP H HC nd pl (runP rss sss 0) [t0] := ⟨sA.trans (sB.trans sC), sC _ _ (sB _ _ dA), plC, rfl, fun i t p h1 h2 => by
      cases i with
      | zero => cases h1; cases h2; exact sC _ _ t0B
      | succ i => simp at h1, hnd, (sA.trans sB).free hpl, fun z => by rw [← z, sB _ _ dA] at hpl; cases hpl⟩
    clear sA dA sB t0B sC plC hnd hpl ht0
    repeat walk_at "sx"
    refine ⟨fun m σ H' => ∃ (i : Nat) (ts : List Addr) (k5 : Option V), m = 401 - i ∧ i ≤ (runP rss sss i).length ∧ (runP rss sss i).length ≤ 400 ∧ NP H H' nd pl (runP rss sss i) ts ∧ σ = [some (.ref p1), some (.ref p2), some (.ref nd), some (.ref pl), some (.int (i : Int)), k5], ⟨_, 0, [t0], _, rfl, Nat.zero_le _, by simp [runP], B0, rfl⟩, ?_⟩
    clear B0
    rintro m σ H1 ⟨i, ts, k5, rfl, hi1, hi4, B, rfl⟩
    repeat walk_at "sx"
    refine ⟨pl, _, rfl, .inl (SqL.of B.list), ?_⟩
    rw [List.length_map, B.len]
    repeat walk_at "sx"
    refine r_ite (fun hc => ?_) (fun hc => ?_)
    · have hc : i < (runP rss sss i).length := by simpa using hc
      obtain ⟨p, hp⟩ : ∃ p, (runP rss sss i)[i]? = some p := ⟨_, List.getElem?_eq_getElem hc⟩
      obtain ⟨ti, hti⟩ : ∃ x, ts[i]? = some x := ⟨_, List.getElem?_eq_getElem (by rw [B.len]; exact hc)⟩
      have hin := runP_in W1 W2 r1 r2 i p (List.mem_of_getElem? hp)
      have hal := ahead_len W1 W2 hin
      have hd6 := tw.V1.d6
      have enx : runP rss sss (i + 1) = addAll (runP rss sss i) (ahead rss sss p) := by
        show turnP rss sss (runP rss sss i) i = _
        unfold turnP; rw [hp]
      refine ⟨fun σ' H' => ∃ (ts : List Addr) (k5 : Option V), i + 1 ≤ (runP rss sss (i + 1)).length ∧ (runP rss sss (i + 1)).length ≤ 400 ∧ NP H H' nd pl (runP rss sss (i + 1)) ts ∧ σ' = [some (.ref p1), some (.ref p2), some (.ref nd), some (.ref pl), some (.int ((i + 1 : Nat) : Int)), k5], ?_, ?_⟩
      · rintro σ' H' ⟨ts, k5, g1, g2, g3, rfl⟩
        exact ⟨401 - (i + 1), by omega, i + 1, ts, k5, rfl, g1, g2, g3, rfl⟩
      repeat walk_at "sx"
      refine r_ixL (SqL.of B.list) (atI_nat (j := i) (by rw [List.getElem?_map, hti]; rfl)) ?_
      repeat walk_at "sx"
      refine ⟨p1, p2, d, rss, sss, ls, ls2, ti, p, rfl, tw.same B.same, B.tup i ti p hti hp, hin, fun l us H2 s2 hl hl2 hul fru ut => ?_⟩
      refine ⟨l, rfl, ⟨_, SqL.of hl2⟩, ?_⟩
      have B2 := B.tick s2
      have nl : l ≠ nd ∧ l ≠ pl := ⟨(fun z => by rw [z, B.dict] at hl; cases hl), (fun z => by rw [z, B.list] at hl; cases hl)⟩
      refine for_list (xs := us.map V.ref) (fun j σ H' => ∃ (ts : List Addr) (k5 : Option V), NP H H' nd pl (addAll (runP rss sss i) ((ahead rss sss p).take j)) ts ∧ (∀ b o, b ≠ nd → b ≠ pl → H2 b = some o → H' b = some o) ∧ σ = [some (.ref p1), some (.ref p2), some (.ref nd), some (.ref pl), some (.int (i : Int)), k5]) ⟨ts, k5, B2, fun b o _ _ e => e, rfl⟩ (fun j σ H' _ pp => by obtain ⟨_, _, _, kk, _⟩ := pp; exact SqL.of (kk _ _ nl.1 nl.2 hl2)) (fun j x σ H3 hx pp => ?_) (fun σ H3 pp => ?_)
      · obtain ⟨ts3, k5', B3, kk, rfl⟩ := pp
        have hx0 := ref_map_inv hx
        clear hx
        obtain ⟨u, rfl, hu⟩ := hx0
        have hju : j < us.length := (List.getElem?_eq_some_iff.mp hu).1
        obtain ⟨g, hg⟩ : ∃ g, (ahead rss sss p)[j]? = some g := ⟨_, List.getElem?_eq_getElem (by rw [← hul]; exact hju)⟩
        have hu2 := ut j u g hu hg
        have nu := B2.out hu2
        have hu3 := kk _ _ nu.1 nu.2 hu2
        have hl3 : (addAll (runP rss sss i) ((ahead rss sss p).take j)).length ≤ 410 := by
          obtain ⟨r, hr⟩ := addAll_pre ((ahead rss sss p).take j) (runP rss sss i)
          have h1 : (addAll (runP rss sss i) ((ahead rss sss p).take j)).length ≤ (runP rss sss i).length + ((ahead rss sss p).take j).length := addAll_len _ _
          rw [List.length_take] at h1
          omega
        rw [take_snocA hg, addAll_snoc]
        generalize addAll (runP rss sss i) ((ahead rss sss p).take j) = L3 at B3 hl3 ⊢
        have hvk : H3 u = some (.tup ((kP g).map kV)) := hu3
        have hv := val_num g L3 0
        repeat walk_at "sx"
        refine r_join (fun σ' H' => ∃ (ts : List Addr) (k5 : Option V), NP H H' nd pl (addP L3 g) ts ∧ (∀ b o, b ≠ nd → b ≠ pl → H2 b = some o → H' b = some o) ∧ σ' = [some (.ref p1), some (.ref p2), some (.ref nd), some (.ref pl), some (.int (i : Int)), k5]) ?_ (fun σ' H' z => z)
        repeat walk_at "sx"
        refine ⟨nd, _, rfl, .inr ⟨_, _, u, .inl B3.dict, rfl, hvk, rfl⟩, ?_⟩
        rw [hv]
        unfold addP
        by_cases hm : g ∈ L3
        · rw [if_pos hm, if_pos hm]
          repeat walk_at "sx"
          refine r_iteN rfl ?_
          repeat walk_at "sx"
          exact ⟨ts3, _, B3, kk, rfl⟩
        · rw [if_neg hm, if_neg hm]
          rw [if_neg hm] at hv
          repeat walk_at "sx"
          refine r_iteP rfl ?_
          repeat walk_at "sx"
          refine ⟨pl, _, rfl, .inl (SqL.of B3.list), ?_⟩
          rw [List.length_map, B3.len]
          repeat walk_at "sx"
          refine ⟨nd, _, rfl, DPut.t B3.dict hvk (by rw [numKV_len]; exact small1000 (by omega)), ?_⟩
          rw [putK_new _ hv]
          repeat walk_at "sx"
          refine ⟨.inl ⟨rfl, _, SqL.of (by rw [upd_ne (Ne.symm B3.ne)]; exact B3.list)⟩, ?_⟩
          repeat walk_at "sx"
          refine ⟨pl, _, _, rfl, rfl, (by rw [upd_ne (Ne.symm B3.ne)]; exact B3.list), small1000 (by rw [List.length_map, B3.len]; omega), ?_⟩
          exact ⟨ts3 ++ [u], _, B3.add hu3, fun b o b1 b2 e => by rw [upd_ne b2, upd_ne b1]; exact kk b o b1 b2 e, rfl⟩
      · obtain ⟨ts3, k5', B3, kk, rfl⟩ := pp
        rw [List.length_map, hul, List.take_length, ← enx] at B3
        repeat walk_at "sx"
        refine ⟨pl, _, rfl, .inl (SqL.of B3.list), ?_⟩
        rw [List.length_map, B3.len]
        obtain ⟨r, hr⟩ := finP_pre W1 W2 r1 r2 (i + 1)
        obtain ⟨r', hr'⟩ := runP_le (rss := rss) (sss := sss) (Nat.le_succ i)
        have hge : (runP rss sss i).length ≤ (runP rss sss (i + 1)).length := by rw [hr', List.length_append]; omega
        repeat walk_at "sx"
        refine r_ite (fun hbig => ?_) (fun hbig => ?_)
        · have hbig : 400 < (runP rss sss (i + 1)).length := by simp at hbig; omega
          repeat walk_at "sx"
          exact ⟨by show 1 ≤ sizeLine; decide, qe (by rw [hr, List.length_append]; omega) H3 B3.same⟩
        · have hbig : (runP rss sss (i + 1)).length ≤ 400 := by simp at hbig; omega
          repeat walk_at "sx"
          refine ⟨_, rfl, ?_⟩
          repeat walk_at "sx"
          refine ⟨_, _, rfl, rfl, ?_⟩
          exact ⟨ts3, _, by omega, hbig, B3, rfl⟩
    · have hc : (runP rss sss i).length ≤ i := by simp at hc; omega
      have ef := finP_of W1 W2 r1 r2 hc
      repeat walk_at "sx"
      rw [ef] at hi4 B
      exact q hi4 H1 nd B.same B.n1 B.dict
/-! #### truth_of -/
theorem sc_truth_of : FnScope ["table", "first", "second"] ["table", "first", "second"] (defScope s_truth_of) := ⟨rfl, rfl, rfl, by decide +kernel, rfl, by decide +kernel, by decide +kernel⟩
theorem b_truth_of (T : Txt K mg t) : Binds K t.fd_truth_of ["table", "first", "second"] [] := T.F_truth_of.binds fun _ _ _ _ _ _ us hl => by obtain ⟨_, _, _, rfl⟩ := len_3 hl; rfl
def sp_truth_of (K : PySem.W.Frag) : Sp := fun vs H Q _ => ∃ (ta : Addr) (tb : List Bool) (a b : Bool), vs = [.ref ta, .bl a, .bl b] ∧ SqL K H ta (tb.map V.bl) ∧ tb.length = 4 ∧ Q (.bl (tbl tb a b)) H
theorem ok_truth_of (T : Txt K mg t) : FnOk P w K mg base CX0 1 t.f_truth_of t.fd_truth_of ["table", "first", "second"] (sp_truth_of K) := by
  refine T.F_truth_of.ok sc_truth_of (fun vs H Q E h => ?_) (fun cdv A outer s H vs Q E hr h => ?_)
  · obtain ⟨ta, tb, a, b, rfl, _⟩ := h
    rfl
  · obtain ⟨ta, tb, a, b, rfl, hT, h4, q⟩ := h
    have at' : ∀ j, j < 4 → atI (tb.map V.bl) (j : Nat) = some (.bl (tb.getD j false)) := fun j hj => atI_nat (j := j) (by rw [List.getElem?_map, List.getD_eq_getElem?_getD, List.getElem?_eq_getElem (by omega)]; rfl)
    have a0 := at' 0 (by omega)
    have a1 := at' 1 (by omega)
    have a2 := at' 2 (by omega)
    have a3 := at' 3 (by omega)
    refine ⟨_, pss_cons (ps_if (pt_val (pv 1))
 (pss_one (ps_ret (pe_ifExp (pt_val (pv 2)) (pe_ix (ix_listK K) (pv 0) (pe_int) (fun _ _ => rfl)) (pe_ix (ix_listK K) (pv 0) (pe_int) (fun _ _ => rfl)))))
 (pss_nil))
 (pss_one (ps_ret (pe_ifExp (pt_val (pv 2)) (pe_ix (ix_listK K) (pv 0) (pe_int) (fun _ _ => rfl)) (pe_ix (ix_listK K) (pv 0) (pe_int) (fun _ _ => rfl))))), ?_⟩
    repeat walk_at "sx"
    cases a with
    | true =>
      refine r_iteP rfl ?_
      repeat walk_at "sx"
      cases b with
      | true =>
        refine r_iteP rfl ?_
        repeat walk_at "sx"
        exact r_ixL hT a3 q
      | false =>
        refine r_iteN (by simp) ?_
        repeat walk_at "sx"
        exact r_ixL hT a2 q
    | false =>
      refine r_iteN (by simp) ?_
      repeat walk_at "sx"
      cases b with
      | true =>
        refine r_iteP rfl ?_
        repeat walk_at "sx"
        exact r_ixL hT a1 q
      | false =>
        refine r_iteN (by simp) ?_
        repeat walk_at "sx"
        exact r_ixL hT a0 q
/-! #### mixed -/
theorem sc_mixed : FnScope ["one", "other", "table", "numbers", "ways", "lamps", "pair"] ["one", "other", "table"] (defScope s_mixed) := ⟨rfl, rfl, rfl, by decide +kernel, rfl, by decide +kernel, by decide +kernel⟩
theorem b_mixed (T : Txt K mg t) : Binds K t.fd_mixed ["one", "other", "table"] [] := T.F_mixed.binds fun _ _ _ _ _ _ us hl => by obtain ⟨_, _, _, rfl⟩ := len_3 hl; rfl
def sp_mixed (K : PySem.W.Frag) (C CO CT : Addr) : Sp := fun vs H Q E => ∃ (p1 p2 ta : Addr) (d d2 : Int) (aw : Addr) (rs : List Addr) (rss : List (List Int)) (al : Addr) (ls : List Bool) (aw2 : Addr) (rs2 : List Addr) (sss : List (List Int)) (al2 : Addr) (ls2 tb : List Bool), vs = [.ref p1, .ref p2, .ref ta] ∧ HouseAt C H p1 d aw rs rss al ls ∧ HouseAt C H p2 d2 aw2 rs2 sss al2 ls2 ∧ Valid d rss ls ∧ Valid d2 sss ls2 ∧ H ta = some (.lst (tb.map V.bl)) ∧ tb.length = 4 ∧
  (d ≠ d2 → E (.ref CO) none H) ∧ (d = d2 → 400 < (finP rss sss).length → ∀ H', Same H H' → E (.ref CT) none H') ∧
  (d = d2 → (finP rss sss).length ≤ 400 → ∀ H' gp gw gs gl, Same H H' → HouseAt C H' gp d gw gs (mixW rss sss) gl (mixL rss sss ls ls2 tb) → Q (.ref gp) H')
structure MX (H H' : Hp) (nd : Addr) (od : Obj) (F : List (Int × Int)) (bs : List Addr) (wl ll : Addr) (rs : List Addr) (W : List (List Int)) (Ls : List Bool) : Prop where
  G : Grown H H' wl rs (fun j => W.getD j [])
  fr : H' nd = some (.frz od (.dT (numKV F 0)))
  ks : ∀ (j : Nat) b p, bs[j]? = some b → F[j]? = some p → H' b = some (.tup [.int p.1, .int p.2])
  lm : H' ll = some (.lst (Ls.map V.bl))
  l0 : H ll = none
  lo : ll ∉ wl :: rs
theorem MX.tick {H H' H2 : Hp} {nd : Addr} {od : Obj} {F : List (Int × Int)} {bs : List Addr} {wl ll : Addr} {rs : List Addr} {W : List (List Int)} {Ls : List Bool} (M : MX H H' nd od F bs wl ll rs W Ls) (s : Same H' H2) : MX H H2 nd od F bs wl ll rs W Ls :=
  ⟨⟨s _ _ M.G.top, fun j b h => s _ _ (M.G.row j b h), M.G.nd, M.G.new, M.G.same.trans s⟩, s _ _ M.fr, fun j b p h1 h2 => s _ _ (M.ks j b p h1 h2), s _ _ M.lm, M.l0, M.lo⟩
theorem ok_mixed (T : Txt K mg t) : FnOk P w K mg base (CXr P w) 5 t.f_mixed t.fd_mixed ["one", "other", "table"] (sp_mixed K t.C_House t.C_OtherDoors t.C_TooGreat) := by
  refine T.F_mixed.okX sc_mixed (fun vs H Q E h => ?_) (fun cdv A outer s H vs Q E hr h => ?_)
  · obtain ⟨p1, p2, ta, d, d2, aw, rs, rss, al, ls, aw2, rs2, sss, al2, ls2, tb, rfl, _⟩ := h
    rfl
  · obtain ⟨p1, p2, ta, d, d2, aw, rs, rss, al, ls, aw2, rs2, sss, al2, ls2, tb, rfl, hh1, hh2, V1, V2, hT, h4, qo, qt, q⟩ := h
    refine ⟨_, pss_cons (ps_expr (pe_call (ok_check_same_doors T) (hr.mono (by decide)) rfl T.mg_check_same_doors T.F_check_same_doors.kp (b_check_same_doors T) .nil xp_def.pass (pa_cons (pv 0) (pa_cons (pv 1) (pa_nil)))))
 (pss_cons (ps_set (i := 3) sc_mixed.nd rfl (Or.inr rfl) (pe_call (ok_numbers_of_pairs T) (hr.mono (by decide)) rfl T.mg_numbers_of_pairs T.F_numbers_of_pairs.kp (b_numbers_of_pairs T) .nil xp_def.pass (pa_cons (pv 0) (pa_cons (pv 1) (pa_nil)))))
 (pss_cons (ps_set (i := 4) sc_mixed.nd rfl (Or.inl rfl) (pe_lst (pa_nil)))
 (pss_cons (ps_set (i := 5) sc_mixed.nd rfl (Or.inl rfl) (pe_lst (pa_nil)))
 (pss_cons (ps_for xp_def.own rfl (pi_keysT (pv 3)) (pg_name (i := 6) sc_mixed.nd rfl (Or.inl rfl))
 (pss_cons (ps_expr (pe_bmK K PySem.F.plainAttrs_list PySem.F.slot_list_append PySem.F.type_list_append mt_append (pv 4) (pa_cons (pe_comp (N := ["one", "other", "table", "numbers", "ways", "lamps", "pair"]) (sc0 := (defScope s_mixed)) (N' := ["further", "numbers"]) (caps := [none, some 3]) (by exact ⟨rfl, by decide +kernel, by decide +kernel, by decide +kernel, rfl, rfl, by decide +kernel⟩) rfl (pi_listK K (pe_call (ok_pairs_ahead T) (hr.mono (by decide)) rfl T.mg_pairs_ahead T.F_pairs_ahead.kp (b_pairs_ahead T) .nil pass0 (pa_cons (pv 0) (pa_cons (pv 1) (pa_cons (pv 6) (pa_nil)))))) (fun _ _ _ _ _ _ => pg_name (i := 0) (show List.Nodup (["further", "numbers"] : List Str) from by decide +kernel) rfl (Or.inl rfl)) (fun _ _ _ _ _ _ => pe_dget hr.units1 (pv 1) (pv 0) (fun _ _ => rfl))) (pa_nil))))
 (pss_one (ps_expr (pe_bmK K PySem.F.plainAttrs_list PySem.F.slot_list_append PySem.F.type_list_append mt_append (pv 5) (pa_cons (pe_call (ok_truth_of T) (hr.mono (by decide)) rfl T.mg_truth_of T.F_truth_of.kp (b_truth_of T) .nil pass0 (pa_cons (pv 2) (pa_cons (pe_ix (ix_listK K) (pe_fldK K (pv 0) rfl) (pe_ix (ix_tupK K) (pv 6) (pe_int) (fun _ _ => rfl)) (fun _ _ => rfl)) (pa_cons (pe_ix (ix_listK K) (pe_fldK K (pv 1) rfl) (pe_ix (ix_tupK K) (pv 6) (pe_int) (fun _ _ => rfl)) (fun _ _ => rfl)) (pa_nil))))) (pa_nil)))))))
 (pss_one (ps_ret (pe_make T.mk_House (ok_House_init T) (hr.mono (by decide)) rfl T.mg_House (b_House_init T) .nil pass0 (pa_cons (pe_fldK K (pv 0) rfl) (pa_cons (pv 4) (pa_cons (pv 5) (pa_nil))))))))))), ?_⟩
    repeat walk_at "sx"
    refine ⟨p1, d, aw, rs, rss, al, ls, p2, d2, aw2, rs2, sss, al2, ls2, rfl, hh1, hh2, fun e => ?_, qo⟩
    subst e
    clear qo
    replace qt := qt rfl
    replace q := q rfl
    have W1 := V1.toWays
    have W2 := V2.toWays
    have r1 : 0 < rss.length := by have := V1.r1; omega
    have r2 : 0 < sss.length := by have := V2.r1; omega
    have tw : Two t.C_House H p1 p2 d rss sss ls ls2 := ⟨⟨_, _, _, hh1⟩, ⟨_, _, _, hh2⟩, V1, V2⟩
    repeat walk_at "sx"
    refine ⟨p1, p2, d, rss, sss, ls, ls2, rfl, tw, fun h400 H1 nd s1 hnd dct => ?_, qt⟩
    clear qt
    replace q := q h400
    have hin : ∀ p ∈ finP rss sss, InP rss sss p := runP_in W1 W2 r1 r2 _
    have hcl : ∀ p ∈ finP rss sss, ∀ g ∈ ahead rss sss p, g ∈ finP rss sss := fun p hp g hg => finP_closed W1 W2 r1 r2 hp hg
    have hVal := mix_valid W1 W2 r1 r2 V1.d1 V1.d6 h400 ls ls2 tb
    have eW : mixW rss sss = (finP rss sss).map fun p => (ahead rss sss p).map (numP (finP rss sss)) := rfl
    have eL : mixL rss sss ls ls2 tb = (finP rss sss).map (lampP ls ls2 tb) := rfl
    generalize mixW rss sss = W at eW hVal q
    generalize mixL rss sss ls ls2 tb = LL at eL hVal q
    generalize finP rss sss = F at h400 dct hin hcl eW eL
    have hWl : W.length = F.length := by rw [eW, List.length_map]
    have hLl : LL.length = F.length := by rw [eL, List.length_map]
    repeat walk_at "sx"
    refine ⟨Nat.zero_le _, fun wl hwl => ?_⟩
    have s2 : Same H1 (upd H1 wl (.lst [])) := Same.upd_new hwl
    have wl2 : (upd H1 wl (.lst [])) wl = some (.lst (([] : List Addr).map V.ref)) := upd_same
    generalize upd H1 wl (.lst []) = H2 at s2 wl2 ⊢
    repeat walk_at "sx"
    refine ⟨Nat.zero_le _, fun ll hll => ?_⟩
    have s3 : Same H2 (upd H2 ll (.lst [])) := Same.upd_new hll
    have ll3 : (upd H2 ll (.lst [])) ll = some (.lst (([] : List Bool).map V.bl)) := upd_same
    generalize upd H2 ll (.lst []) = H3 at s3 ll3 ⊢
    have s03 : Same H H3 := s1.trans (s2.trans s3)
    have d3 := s3 _ _ (s2 _ _ dct)
    have w3 := s3 _ _ wl2
    have nwl : wl ≠ nd := fun z => by rw [z, dct] at hwl; cases hwl
    have nll : ll ≠ nd := fun z => by rw [z, s2 _ _ dct] at hll; cases hll
    have nlw : ll ≠ wl := fun z => by rw [z, wl2] at hll; cases hll
    have hwl0 := s1.free hwl
    have hll0 := (s1.trans s2).free hll
    repeat walk_at "sx"
    refine ⟨nd, _, rfl, d3, fun od bs hbl hbk => ?_⟩
    rw [numKV_len] at hbl
    have M0 : MX H (upd H3 nd (.frz od (.dT (numKV F 0)))) nd od F bs wl ll [] W [] := by
      have kk : ∀ b o, b ≠ nd → H3 b = some o → (upd H3 nd (.frz od (.dT (numKV F 0)))) b = some o := fun b o hb e => by rw [upd_ne hb]; exact e
      refine ⟨⟨kk _ _ nwl w3, fun j b h => by simp at h, by simp, fun b hb => by rw [List.mem_singleton.mp hb]; exact hwl0, fun b o e => kk b o (fun z => by rw [z, hnd] at e; cases e) (s03 b o e)⟩, upd_same, fun j b p h1 h2 => ?_, kk _ _ nll ll3, hll0, by simp [nlw]⟩
      have hb := hbk j b (kP p) (.int ((j : Nat) : Int)) h1 (by unfold numKV; rw [List.getElem?_map, List.getElem?_zipIdx, h2]; simp)
      exact kk b _ (fun z => by rw [z, d3] at hb; cases hb) hb
    generalize upd H3 nd (.frz od (.dT (numKV F 0))) = H4 at M0 ⊢
    clear s1 s2 s3 s03 d3 w3 wl2 ll3 hwl hll dct hbk
    refine for_keys (fun i σ H' => ∃ rs k6, rs.length = i ∧ MX H H' nd od F bs wl ll rs W (LL.take i) ∧ σ = [some (.ref p1), some (.ref p2), some (.ref ta), some (.ref nd), some (.ref wl), some (.ref ll), k6]) ⟨[], _, rfl, by rw [List.take_zero]; exact M0, rfl⟩ (fun i σ H' _ pp => by obtain ⟨_, _, _, M, _⟩ := pp; exact M.fr) (fun i b σ H5 hb pp => ?_) (fun σ H5 pp => ?_)
    · obtain ⟨rs5, k6, hrl, M, rfl⟩ := pp
      have hi : i < F.length := by rw [← hbl]; exact (List.getElem?_eq_some_iff.mp hb).1
      obtain ⟨p, hp⟩ : ∃ p, F[i]? = some p := ⟨_, List.getElem?_eq_getElem hi⟩
      have hpm := List.mem_of_getElem? hp
      have hpi := hin p hpm
      have hb5 := M.ks i b p hb hp
      have hWi : W[i]? = some ((ahead rss sss p).map (numP F)) := by rw [eW, List.getElem?_map, hp]; rfl
      have hLi : LL[i]? = some (lampP ls ls2 tb p) := by rw [eL, List.getElem?_map, hp]; rfl
      have hal := ahead_len W1 W2 hpi
      have hd6 := V1.d6
      repeat walk_at "sx"
      refine ⟨.inl ⟨rfl, _, SqL.of M.G.top⟩, ?_⟩
      repeat walk_at "sx"
      refine ⟨p1, p2, d, rss, sss, ls, ls2, b, p, rfl, tw.same M.G.same, hb5, hpi, fun l us H6 s6 hl hl6 hul fru ut => ?_⟩
      refine ⟨l, rfl, ⟨_, SqL.of hl6⟩, ?_⟩
      have M6 := M.tick s6
      refine comp_list (xs := us.map V.ref) (fun acc j ys H' => H' = upd H6 acc (.lst ys) ∧ ys = (((ahead rss sss p).take j).map (numP F)).map V.int) (fun acc hacc => ⟨rfl, rfl⟩) (fun acc j ys H' hacc _ pp => by rw [pp.1]; exact SqL.of (by rw [upd_ne (ne_of_none hl6 hacc)]; exact hl6)) (fun acc j x ys H7 hacc hx pp => ?_) (fun acc ys H7 hacc pp => ?_)
      · obtain ⟨rfl, rfl⟩ := pp
        have hx0 := ref_map_inv hx
        clear hx
        obtain ⟨u, rfl, hu⟩ := hx0
        have hju : j < us.length := (List.getElem?_eq_some_iff.mp hu).1
        obtain ⟨g, hg⟩ : ∃ g, (ahead rss sss p)[j]? = some g := ⟨_, List.getElem?_eq_getElem (by rw [← hul]; exact hju)⟩
        have hu6 := ut j u g hu hg
        have hgm := hcl p hpm g (List.mem_of_getElem? hg)
        have hv := val_num g F 0
        rw [if_pos hgm, Nat.zero_add] at hv
        repeat walk_at "sx"
        refine ⟨Wk.set rfl, ?_⟩
        repeat walk_at "sx"
        refine ⟨nd, _, rfl, .inr ⟨_, kP g, u, .inr ⟨od, by rw [upd_ne (ne_of_none M6.fr hacc)]; exact M6.fr⟩, rfl, (by rw [upd_ne (ne_of_none hu6 hacc)]; exact hu6), hv.symm⟩, ?_⟩
        refine ⟨upd_same, small1000 (by simp; omega), ?_, ?_⟩
        · rw [upd_upd]
        · rw [take_snocA hg, List.map_append, List.map_append]; rfl
      · obtain ⟨rfl, rfl⟩ := pp
        rw [List.length_map, hul, List.take_length]
        have s7 : Same H6 (upd H6 acc (.lst (((ahead rss sss p).map (numP F)).map V.int))) := Same.upd_new hacc
        have ac7 : (upd H6 acc (.lst (((ahead rss sss p).map (numP F)).map V.int))) acc = some (.lst (((ahead rss sss p).map (numP F)).map V.int)) := upd_same
        have acw : acc ∉ wl :: rs5 := M6.G.fresh hacc
        have acl : acc ≠ ll := fun z => by rw [z, M6.lm] at hacc; cases hacc
        have acn : acc ≠ nd := fun z => by rw [z, M6.fr] at hacc; cases hacc
        generalize upd H6 acc (.lst (((ahead rss sss p).map (numP F)).map V.int)) = H7 at s7 ac7 ⊢
        have M7 := M6.tick s7
        repeat walk_at "sx"
        refine ⟨wl, _, _, rfl, rfl, M7.G.top, small1000 (by rw [List.length_map]; omega), ?_⟩
        have k8 : ∀ b o, b ≠ wl → H7 b = some o → upd H7 wl (.lst (rs5.map V.ref ++ [.ref acc])) b = some o := fun b o hb e => by rw [upd_ne hb]; exact e
        have w8 : (upd H7 wl (.lst (rs5.map V.ref ++ [.ref acc]))) wl = some (.lst ((rs5 ++ [acc]).map V.ref)) := by rw [upd_same, List.map_append]; rfl
        generalize upd H7 wl (.lst (rs5.map V.ref ++ [.ref acc])) = H8 at k8 w8 ⊢
        have aw8 : acc ≠ wl := fun z => acw (by rw [z]; simp)
        have lw : ll ≠ wl := fun z => M.lo (by rw [z]; simp)
        have nw : nd ≠ wl := fun z => by
          have := M7.fr
          rw [z, M7.G.top] at this; cases this
        have M8 : MX H H8 nd od F bs wl ll (rs5 ++ [acc]) W (LL.take i) := by
          refine ⟨M6.G.step hacc w8 ?_ (fun b o hb _ e => k8 b o hb (s7 b o e)), k8 _ _ nw M7.fr, fun j b p h1 h2 => ?_, k8 _ _ lw M7.lm, M.l0, ?_⟩
          · have e : W.getD rs5.length [] = (ahead rss sss p).map (numP F) := by rw [hrl, List.getD_eq_getElem?_getD, hWi]; rfl
            rw [e]; exact k8 _ _ aw8 ac7
          · have := M7.ks j b p h1 h2
            exact k8 _ _ (fun z => by rw [z, M7.G.top] at this; cases this) this
          · have := M.lo
            simp only [List.mem_cons, List.mem_append, List.not_mem_nil, or_false, not_or] at this ⊢
            exact ⟨this.1, this.2, Ne.symm acl⟩
        obtain ⟨aw8', rs8', al8', hh8⟩ := (tw.same M8.G.same).one
        obtain ⟨bw8', ts8', bl8', gg8⟩ := (tw.same M8.G.same).two
        obtain ⟨dx8, ho8⟩ := hh8.ob
        obtain ⟨ex8, go8⟩ := gg8.ob
        obtain ⟨⟨x0, x1⟩, y0, y1⟩ := hpi
        have hxl : p.1.toNat < ls.length := by rw [V1.ll]; omega
        have hyl : p.2.toNat < ls2.length := by rw [V2.ll]; omega
        have hb8 := M8.ks i b p hb hp
        clear M7 M6 s6 s7 ac7 k8 w8
        repeat walk_at "sx"
        refine ⟨.inl ⟨rfl, _, SqL.of M8.lm⟩, ?_⟩
        repeat walk_at "sx"
        refine ⟨_, rfl, p1, _, dx8, _, _, rfl, ho8, T.cl_House, T.na_House_lamps, hfs_lamps _ _ _, ?_⟩
        repeat walk_at "sx"
        refine ⟨b, _, 0, _, rfl, rfl, SqT.of hb8, atI_nat (j := 0) rfl, ?_⟩
        refine r_ixL (SqL.of hh8.lamps) (atI_get' x0 (bl_map_get (List.getElem?_eq_getElem hxl))) ?_
        repeat walk_at "sx"
        refine ⟨_, rfl, p2, _, ex8, _, _, rfl, go8, T.cl_House, T.na_House_lamps, hfs_lamps _ _ _, ?_⟩
        repeat walk_at "sx"
        refine ⟨b, _, 1, _, rfl, rfl, SqT.of hb8, atI_nat (j := 1) rfl, ?_⟩
        refine r_ixL (SqL.of gg8.lamps) (atI_get' y0 (bl_map_get (List.getElem?_eq_getElem hyl))) ?_
        repeat walk_at "sx"
        refine ⟨ta, tb, _, _, rfl, SqL.of (M8.G.same _ _ hT), h4, ?_⟩
        have elp : tbl tb ls[p.1.toNat] ls2[p.2.toNat] = lampP ls ls2 tb p := by
          unfold lampP
          rw [List.getD_eq_getElem?_getD, List.getD_eq_getElem?_getD, List.getElem?_eq_getElem hxl, List.getElem?_eq_getElem hyl]; rfl
        rw [elp]
        repeat walk_at "sx"
        refine ⟨ll, _, _, rfl, rfl, M8.lm, small1000 (by rw [List.length_map, List.length_take]; omega), ?_⟩
        have hlo := M8.lo
        simp only [List.mem_cons, List.mem_append, List.not_mem_nil, or_false, not_or] at hlo
        have k9 : ∀ b o, b ≠ ll → H8 b = some o → upd H8 ll (.lst ((LL.take i).map V.bl ++ [.bl (lampP ls ls2 tb p)])) b = some o := fun b o hb e => by rw [upd_ne hb]; exact e
        have l9 : (upd H8 ll (.lst ((LL.take i).map V.bl ++ [.bl (lampP ls ls2 tb p)]))) ll = some (.lst ((LL.take (i + 1)).map V.bl)) := by rw [upd_same, take_snocA hLi, List.map_append]; rfl
        generalize upd H8 ll (.lst ((LL.take i).map V.bl ++ [.bl (lampP ls ls2 tb p)])) = H9 at k9 l9 ⊢
        refine ⟨rs5 ++ [acc], _, by simp [hrl], ⟨⟨k9 _ _ (Ne.symm hlo.1) M8.G.top, fun j c h => k9 _ _ (fun z => ?_) (M8.G.row j c h), M8.G.nd, M8.G.new, fun c o e => k9 c o (fun z => by rw [z, M.l0] at e; cases e) (M8.G.same c o e)⟩, k9 _ _ (fun z => by have := M8.fr; rw [z, M8.lm] at this; cases this) M8.fr, fun j c g h1 h2 => ?_, l9, M.l0, M8.lo⟩, rfl⟩
        · exact M8.lo (by rw [← z]; exact List.mem_cons_of_mem _ (List.mem_of_getElem? h))
        · have := M8.ks j c g h1 h2
          exact k9 _ _ (fun z => by rw [z, M8.lm] at this; cases this) this
    · obtain ⟨rs5, k6, hrl, M, rfl⟩ := pp
      rw [hbl] at hrl M
      rw [← hLl, List.take_length] at M
      have Mt := M.G.matOf (by rw [hrl, hWl])
      obtain ⟨aw8', rs8', al8', hh8⟩ := (tw.same M.G.same).one
      obtain ⟨dx8, ho8⟩ := hh8.ob
      repeat walk_at "sx"
      refine ⟨_, rfl, p1, _, dx8, _, _, rfl, ho8, T.cl_House, T.na_House_doors, hfs_doors _ _ _, ?_⟩
      repeat walk_at "sx"
      intro hp hdx e1 e2 e3
      have sm : Same H5 (upd (upd H5 hdx (.own hp)) hp (.ins t.C_House hdx [])) := (Same.upd_new e2).trans (Same.upd_new (by rw [upd_ne (Ne.symm e3)]; exact e1))
      refine ⟨hp, hdx, d, wl, rs5, W, ll, LL, rfl, upd_same, Mt.same sm, SqL.of (sm _ _ M.lm), hVal, fun H6 aw6 rs6 al6 hh6 keep6 new6 => ⟨rfl, ?_⟩⟩
      have s6 : Same H5 H6 := fun b o e => keep6 b o (sm b o e) (ne_of_none e e1)
      exact q H6 hp aw6 rs6 al6 (M.G.same.trans s6) hh6
/-! #### l_cell_at -/
theorem sc_l_cell_at : FnScope ["script", "k"] ["script", "k"] (defScope s_l_cell_at) := ⟨rfl, rfl, rfl, by decide +kernel, rfl, by decide +kernel, by decide +kernel⟩
theorem b_l_cell_at (T : Txt K mg t) : Binds K t.fd_l_cell_at ["script", "k"] [] := T.F_l_cell_at.binds fun _ _ _ _ _ _ us hl => by obtain ⟨_, _, rfl⟩ := len_2 hl; rfl
def sp_l_cell_at (K : PySem.W.Frag) : Sp := fun vs H Q _ => ∃ (a : Addr) (ns : List Int) (k : Int), vs = [.ref a, .int k] ∧ SqL K H a (ns.map V.int) ∧ 0 ≤ k ∧ Q (.int (cellv ns k)) H
theorem ok_l_cell_at (T : Txt K mg t) : FnOk P w K mg base CX0 1 t.f_l_cell_at t.fd_l_cell_at ["script", "k"] (sp_l_cell_at K) := by
  refine T.F_l_cell_at.ok sc_l_cell_at (fun vs H Q E h => ?_) (fun cdv A outer s H vs Q E hr h => ?_)
  · obtain ⟨a, ns, k, rfl, _⟩ := h
    rfl
  · obtain ⟨a, ns, k, rfl, hS, h0, q⟩ := h
    refine ⟨_, pss_cons (ps_if (pt_cmpR op_lt (pv 1) (pe_callB (call_len_seqK K) rfl T.m_len PySem.boot_len (pa_cons (pv 0) (pa_nil))) (nomark _))
 (pss_one (ps_ret (pe_ix (ix_listK K) (pv 0) (pv 1) (fun _ _ => rfl))))
 (pss_nil))
 (pss_one (ps_ret (pe_int))), ?_⟩
    repeat walk_at "sx"
    refine ⟨a, _, rfl, .inl hS, ?_⟩
    repeat walk_at "sx"
    refine r_ite (fun hc => ?_) (fun hc => ?_)
    · have hc : k < (ns.map V.int).length := of_decide_eq_true hc
      rw [List.length_map] at hc
      have hn : k.toNat < ns.length := by omega
      repeat walk_at "sx"
      refine r_ixL hS (atI_get' h0 (int_map_get (List.getElem?_eq_getElem hn))) ?_
      have e : cellv ns k = ns[k.toNat] := by
        unfold cellv
        rw [if_pos hc, List.getD_eq_getElem?_getD, List.getElem?_eq_getElem hn, Option.getD_some]
      rw [e] at q
      exact q
    · have hc : ¬ k < (ns.map V.int).length := of_decide_eq_false hc
      rw [List.length_map] at hc
      repeat walk_at "sx"
      have e : cellv ns k = 0 := by unfold cellv; rw [if_neg hc]
      rw [e] at q
      exact q
/-! #### l_draw -/
theorem sc_l_draw : FnScope ["cell", "k", "bound", "stir"] ["cell", "k", "bound"] (defScope s_l_draw) := ⟨rfl, rfl, rfl, by decide +kernel, rfl, by decide +kernel, by decide +kernel⟩
theorem b_l_draw (T : Txt K mg t) : Binds K t.fd_l_draw ["cell", "k", "bound"] [] := T.F_l_draw.binds fun _ _ _ _ _ _ us hl => by obtain ⟨_, _, _, rfl⟩ := len_3 hl; rfl
def sp_l_draw : Sp := fun vs H Q _ => ∃ c k b : Int, vs = [.int c, .int k, .int b] ∧ 0 < b ∧ Q (.int (draw c k b)) H
theorem ok_l_draw (T : Txt K mg t) : FnOk P w K mg base CX0 1 t.f_l_draw t.fd_l_draw ["cell", "k", "bound"] (sp_l_draw) := by
  refine T.F_l_draw.ok sc_l_draw (fun vs H Q E h => ?_) (fun cdv A outer s H vs Q E hr h => ?_)
  · obtain ⟨c, k, b, rfl, _⟩ := h
    rfl
  · obtain ⟨c, k, b, rfl, hb, q⟩ := h
    refine ⟨_, pss_cons (ps_set (i := 3) sc_l_draw.nd rfl (Or.inl rfl) (pe_op op_mod (pe_op op_mul (pe_op op_add (pe_op op_add (pe_op op_mod (pv 0) (pe_int)) (pe_op op_mul (pe_int) (pv 1))) (pe_int)) (pe_int)) (pe_int)))
 (pss_cons (ps_set (i := 3) sc_l_draw.nd rfl (Or.inl rfl) (pe_op op_mod (pe_op op_mul (pe_op op_add (pv 3) (pe_op op_mul (pe_int) (pe_op op_add (pv 1) (pe_int)))) (pe_int)) (pe_int)))
 (pss_one (ps_ret (pe_op op_mod (pe_op op_fdiv (pv 3) (pe_int)) (pv 2))))), ?_⟩
    repeat walk_at "sx"
    exact q
/-! #### l_ways_by -/
theorem sc_l_ways_by : FnScope ["cell", "doors", "rooms", "ways", "k"] ["cell", "doors", "rooms"] (defScope s_l_ways_by) := ⟨rfl, rfl, rfl, by decide +kernel, rfl, by decide +kernel, by decide +kernel⟩
theorem b_l_ways_by (T : Txt K mg t) : Binds K t.fd_l_ways_by ["cell", "doors", "rooms"] [] := T.F_l_ways_by.binds fun _ _ _ _ _ _ us hl => by obtain ⟨_, _, _, rfl⟩ := len_3 hl; rfl
def sp_l_ways_by : Sp := fun vs H Q _ => ∃ c d r : Int, vs = [.int c, .int d, .int r] ∧ 0 ≤ d ∧ d ≤ 1000 ∧ 0 ≤ r ∧ r ≤ 1000 ∧
  ∀ (a : Addr) (rs : List Addr) (H' : Hp), Same H H' → Mat H' a rs (waysBy c d r) → (∀ b ∈ a :: rs, H b = none) → Q (.ref a) H'
theorem ok_l_ways_by (T : Txt K mg t) : FnOk P w K mg base CX0 2 t.f_l_ways_by t.fd_l_ways_by ["cell", "doors", "rooms"] (sp_l_ways_by) := by
  refine T.F_l_ways_by.ok sc_l_ways_by (fun vs H Q E h => ?_) (fun cdv A outer s H vs Q E hr h => ?_)
  · obtain ⟨c, d, r, rfl, _⟩ := h
    rfl
  · obtain ⟨c, d, r, rfl, hd0, hd1, hr0, hr1, q⟩ := h
    refine ⟨_, pss_cons (ps_set (i := 3) sc_l_ways_by.nd rfl (Or.inl rfl) (pe_lst (pa_nil)))
 (pss_cons (ps_for PassesOwn.never rfl (pi_range1 rfl T.m_range (pa_cons (pv 2) (pa_nil))) (pg_name (i := 4) sc_l_ways_by.nd rfl (Or.inr rfl))
 (pss_one (ps_expr (pe_bmK K PySem.F.plainAttrs_list PySem.F.slot_list_append PySem.F.type_list_append mt_append (pv 3) (pa_cons (pe_comp (N := ["cell", "doors", "rooms", "ways", "k"]) (sc0 := (defScope s_l_ways_by)) (N' := ["door", "cell", "k", "rooms"]) (caps := [none, some 0, some 4, some 2]) (by exact ⟨rfl, by decide +kernel, by decide +kernel, by decide +kernel, rfl, rfl, by decide +kernel⟩) rfl (pi_range1 rfl T.m_range (pa_cons (pv 1) (pa_nil))) (fun _ _ _ _ _ _ => pg_name (i := 0) (show List.Nodup (["door", "cell", "k", "rooms"] : List Str) from by decide +kernel) rfl (Or.inl rfl)) (fun _ _ _ _ _ _ => pe_call (ok_l_draw T) (hr.mono (by decide)) rfl T.mg_l_draw T.F_l_draw.kp (b_l_draw T) .nil pass0 (pa_cons (pv 1) (pa_cons (pe_op op_add (pe_op op_mul (pe_int) (pv 2)) (pv 0)) (pa_cons (pv 3) (pa_nil)))))) (pa_nil))))))
 (pss_one (ps_ret (pv 3)))), ?_⟩
    repeat walk_at "sx"
    refine ⟨Nat.zero_le _, fun l hl => ?_⟩
    repeat walk_at "sx"
    refine ⟨_, rfl, by omega, by omega, ?_⟩
    refine for_range (fun i σ H' => ∃ rs kv, σ = [some (.int c), some (.int d), some (.int r), some (.ref l), kv] ∧ rs.length = i ∧ Grown H H' l rs (rowBy c d r)) ⟨[], none, rfl, rfl, Grown.start hl⟩ (fun i σ H1 hi p => ?_) (fun σ H1 p => ?_)
    · obtain ⟨rs, kv, rfl, hlen, G⟩ := p
      repeat walk_at "sx"
      refine ⟨.inl ⟨rfl, _, SqL.of G.top⟩, ?_⟩
      repeat walk_at "sx"
      refine ⟨_, rfl, by omega, by omega, ?_⟩
      have hrp : 0 < r := by omega
      refine comp_range (fun acc j ys H2 => ys = (List.range j).map (fun (j : Nat) => V.int (draw c (7 * (i : Int) + (j : Int)) r)) ∧ H2 = upd H1 acc (.lst ys)) (fun acc hacc => ⟨rfl, rfl⟩) (fun acc j ys H2 hacc hj p => ?_) (fun acc ys H2 hacc p => ?_)
      · obtain ⟨rfl, rfl⟩ := p
        repeat walk_at "sx"
        refine ⟨Wk.set rfl, ?_⟩
        repeat walk_at "sx"
        refine ⟨_, _, _, rfl, hrp, upd_same, small1000 (by simp; omega), ?_, ?_⟩
        · rw [map_range_snoc]; simp only [Int.zero_add]
        · rw [upd_upd]
      · obtain ⟨rfl, rfl⟩ := p
        repeat walk_at "sx"
        have hla : l ≠ acc := fun z => G.fresh hacc (by rw [z]; exact List.mem_cons_self)
        refine ⟨l, rs.map V.ref, _, rfl, rfl, (by rw [upd_ne hla]; exact G.top), small1000 (by simp; omega), ?_⟩
        refine ⟨rs ++ [acc], _, rfl, by simp [hlen], ?_⟩
        have := G.snoc hacc
        have e : (rowBy c d r rs.length).map V.int = (List.range d.toNat).map (fun (j : Nat) => V.int (draw c (7 * (i : Int) + (j : Int)) r)) := by
          unfold rowBy; rw [List.map_map, hlen]; rfl
        rw [e] at this
        exact this
    · obtain ⟨rs, kv, rfl, hlen, G⟩ := p
      repeat walk_at "sx"
      refine q l rs H1 G.same ?_ G.new
      have := G.mat
      rw [hlen] at this
      exact this
/-! #### l_lamps_by -/
theorem sc_l_lamps_by : FnScope ["cell", "rooms"] ["cell", "rooms"] (defScope s_l_lamps_by) := ⟨rfl, rfl, rfl, by decide +kernel, rfl, by decide +kernel, by decide +kernel⟩
theorem b_l_lamps_by (T : Txt K mg t) : Binds K t.fd_l_lamps_by ["cell", "rooms"] [] := T.F_l_lamps_by.binds fun _ _ _ _ _ _ us hl => by obtain ⟨_, _, rfl⟩ := len_2 hl; rfl
def sp_l_lamps_by : Sp := fun vs H Q _ => ∃ c r : Int, vs = [.int c, .int r] ∧ 0 ≤ r ∧ r ≤ 1000 ∧ ∀ (a : Addr), H a = none → Q (.ref a) (upd H a (.lst ((lampsBy c r).map V.bl)))
theorem ok_l_lamps_by (T : Txt K mg t) : FnOk P w K mg base CX0 2 t.f_l_lamps_by t.fd_l_lamps_by ["cell", "rooms"] (sp_l_lamps_by) := by
  refine T.F_l_lamps_by.ok sc_l_lamps_by (fun vs H Q E h => ?_) (fun cdv A outer s H vs Q E hr h => ?_)
  · obtain ⟨c, r, rfl, _⟩ := h
    rfl
  · obtain ⟨c, r, rfl, hr0, hr1, q⟩ := h
    refine ⟨_, pss_one (ps_ret (pe_comp (N := ["cell", "rooms"]) (sc0 := (defScope s_l_lamps_by)) (N' := ["k", "cell"]) (caps := [none, some 0]) (by exact ⟨rfl, by decide +kernel, by decide +kernel, by decide +kernel, rfl, rfl, by decide +kernel⟩) rfl (pi_range1 rfl T.m_range (pa_cons (pv 1) (pa_nil))) (fun _ _ _ _ _ _ => pg_name (i := 0) (show List.Nodup (["k", "cell"] : List Str) from by decide +kernel) rfl (Or.inl rfl)) (fun _ _ _ _ _ _ => pe_cmpR op_eq (pe_call (ok_l_draw T) (hr.mono (by decide)) rfl T.mg_l_draw T.F_l_draw.kp (b_l_draw T) .nil pass0 (pa_cons (pv 1) (pa_cons (pv 0) (pa_cons (pe_int) (pa_nil))))) (pe_int) (nomark _)))), ?_⟩
    repeat walk_at "sx"
    refine ⟨_, rfl, by omega, by omega, ?_⟩
    refine comp_range (fun acc j ys H2 => ys = (List.range j).map (fun (k : Nat) => V.bl (decide (draw c (k : Int) 2 = 1))) ∧ H2 = upd H acc (.lst ys)) (fun acc hacc => ⟨rfl, rfl⟩) (fun acc j ys H2 hacc hj p => ?_) (fun acc ys H2 hacc p => ?_)
    · obtain ⟨rfl, rfl⟩ := p
      repeat walk_at "sx"
      refine ⟨Wk.set rfl, ?_⟩
      repeat walk_at "sx"
      refine ⟨_, _, _, rfl, by decide, ?_⟩
      repeat walk_at "sx"
      refine r_eq rfl ⟨upd_same, small1000 (by simp; omega), ?_, ?_⟩
      · rw [map_range_snoc, dec_int]; simp only [Int.zero_add]; rfl
      · rw [upd_upd]
    · obtain ⟨rfl, rfl⟩ := p
      have := q acc hacc
      unfold lampsBy at this
      rw [List.map_map] at this
      exact this
/-! #### l_whole -/
theorem sc_l_whole : FnScope ["found"] ["found"] (defScope s_l_whole) := ⟨rfl, rfl, rfl, by decide +kernel, rfl, by decide +kernel, by decide +kernel⟩
theorem b_l_whole (T : Txt K mg t) : Binds K t.fd_l_whole ["found"] [] := T.F_l_whole.binds fun _ _ _ _ _ _ us hl => by obtain ⟨_, rfl⟩ := len_1 hl; rfl
def sp_l_whole : Sp := fun vs H Q _ => ∃ i : Int, vs = [.int i] ∧ Q (.bl true) H
theorem ok_l_whole (T : Txt K mg t) : FnOk P w K mg base CX0 1 t.f_l_whole t.fd_l_whole ["found"] (sp_l_whole) := by
  refine T.F_l_whole.ok sc_l_whole (fun vs H Q E h => ?_) (fun cdv A outer s H vs Q E hr h => ?_)
  · obtain ⟨i, rfl, _⟩ := h
    rfl
  · obtain ⟨i, rfl, q⟩ := h
    refine ⟨_, pss_one (ps_ret (pe_and (pe_callB (call_isinstK K) rfl T.m_isinstance boot_isinstance (pa_cons (pv 0) (pa_cons (pe_bltn (v := .ty "int") rfl T.m_int boot_int rfl) (pa_nil)))) (pe_one (pe_not (pe_callB (call_isinstK K) rfl T.m_isinstance boot_isinstance (pa_cons (pv 0) (pa_cons (pe_bltn (v := .ty "bool") rfl T.m_bool boot_bool rfl) (pa_nil)))))))), ?_⟩
    repeat walk_at "sx"
    refine ⟨_, _, _, _, true, rfl, .int i, rfl, rfl, ?_⟩
    repeat walk_at "sx"
    refine r_iteP rfl ?_
    repeat walk_at "sx"
    refine ⟨_, _, _, _, false, rfl, .int i, rfl, ki_ib K, ?_⟩
    repeat walk_at "sx"
    exact q
/-! #### l_numbers -/
theorem sc_l_numbers : FnScope ["found", "due", "part"] ["found", "due"] (defScope s_l_numbers) := ⟨rfl, rfl, rfl, by decide +kernel, rfl, by decide +kernel, by decide +kernel⟩
theorem b_l_numbers (T : Txt K mg t) : Binds K t.fd_l_numbers ["found", "due"] [] := T.F_l_numbers.binds fun _ _ _ _ _ _ us hl => by obtain ⟨_, _, rfl⟩ := len_2 hl; rfl
def sp_l_numbers (K : PySem.W.Frag) : Sp := fun vs H Q _ => ∃ (a b : Addr) (ns ms : List Int), vs = [.ref a, .ref b] ∧ H a = some (.lst (ns.map V.int)) ∧ SqL K H b (ms.map V.int) ∧ Q (.bl (decide (ns = ms))) H
theorem ok_l_numbers (T : Txt K mg t) : FnOk P w K mg base CX0 2 t.f_l_numbers t.fd_l_numbers ["found", "due"] (sp_l_numbers K) := by
  refine T.F_l_numbers.ok sc_l_numbers (fun vs H Q E h => ?_) (fun cdv A outer s H vs Q E hr h => ?_)
  · obtain ⟨a, b, ns, ms, rfl, _⟩ := h
    rfl
  · obtain ⟨a, b, ns, ms, rfl, ha, hb, q⟩ := h
    refine ⟨_, pss_cons (ps_if (PW.pt (pw_or (pt_not (pt_val (pe_callB (call_isinstK K) rfl T.m_isinstance boot_isinstance (pa_cons (pv 0) (pa_cons (pe_bltn (v := .ty "list") rfl T.m_list boot_list rfl) (pa_nil)))))) (pw_or1 (pt_cmpR op_ne (pe_callB (call_len_seqK K) rfl T.m_len PySem.boot_len (pa_cons (pv 0) (pa_nil))) (pe_callB (call_len_seqK K) rfl T.m_len PySem.boot_len (pa_cons (pv 1) (pa_nil))) (nomark _)))))
 (pss_one (ps_ret (pe_bl)))
 (pss_nil))
 (pss_cons (ps_for PassesOwn.never rfl (pi_listK K (pv 0)) (pg_name (i := 2) sc_l_numbers.nd rfl (Or.inl rfl))
 (pss_one (ps_if (pt_not (pt_val (pe_call (ok_l_whole T) (hr.mono (by decide)) rfl T.mg_l_whole T.F_l_whole.kp (b_l_whole T) .nil pass0 (pa_cons (pv 2) (pa_nil)))))
 (pss_one (ps_ret (pe_bl)))
 (pss_nil))))
 (pss_one (ps_ret (pe_cmpR (op_eqIK K hr.units) (pv 0) (pv 1) (nomark _))))), ?_⟩
    repeat walk_at "sx"
    refine ⟨_, _, _, _, true, rfl, .lst ha, rfl, rfl, ?_⟩
    repeat walk_at "sx"
    refine r_iteN rfl ?_
    repeat walk_at "sx"
    refine ⟨a, _, rfl, .inl (SqL.of ha), ?_⟩
    repeat walk_at "sx"
    refine ⟨b, _, rfl, .inl hb, ?_⟩
    refine r_ne rfl ?_
    repeat walk_at "sx"
    rw [dec_int, List.length_map, List.length_map]
    refine r_ite (fun hc => ?_) (fun hc => ?_)
    · have hne : ¬ ns = ms := fun z => by subst z; simp at hc
      repeat walk_at "sx"
      rw [decide_eq_false hne] at q
      exact q
    · repeat walk_at "sx"
      refine ⟨a, rfl, ⟨_, SqL.of ha⟩, ?_⟩
      refine for_list (xs := ns.map V.int) (fun i σ H' => H' = H ∧ ∃ kv, σ = [some (.ref a), some (.ref b), kv]) ⟨rfl, none, rfl⟩ (fun i σ H' _ p => by rw [p.1]; exact SqL.of ha) (fun i x σ H' hx p => ?_) (fun σ H' p => ?_)
      · obtain ⟨rfl, kv, rfl⟩ := p
        have hx0 := int_map_inv hx
        clear hx
        obtain ⟨x, rfl, hx⟩ := hx0
        repeat walk_at "sx"
        refine ⟨x, rfl, ?_⟩
        repeat walk_at "sx"
        refine r_iteN rfl ?_
        repeat walk_at "sx"
        exact ⟨rfl, _, rfl⟩
      · obtain ⟨rfl, kv, rfl⟩ := p
        repeat walk_at "sx"
        exact ⟨a, b, ns, ms, rfl, rfl, SqL.of ha, hb, q⟩
/-! #### l_truths -/
theorem sc_l_truths : FnScope ["found", "due", "part"] ["found", "due"] (defScope s_l_truths) := ⟨rfl, rfl, rfl, by decide +kernel, rfl, by decide +kernel, by decide +kernel⟩
theorem b_l_truths (T : Txt K mg t) : Binds K t.fd_l_truths ["found", "due"] [] := T.F_l_truths.binds fun _ _ _ _ _ _ us hl => by obtain ⟨_, _, rfl⟩ := len_2 hl; rfl
def sp_l_truths (K : PySem.W.Frag) : Sp := fun vs H Q _ => ∃ (a b : Addr) (ns : List Bool), vs = [.ref a, .ref b] ∧ H a = some (.lst (ns.map V.bl)) ∧ SqL K H b (ns.map V.bl) ∧ Q (.bl true) H
theorem ok_l_truths (T : Txt K mg t) : FnOk P w K mg base CX0 1 t.f_l_truths t.fd_l_truths ["found", "due"] (sp_l_truths K) := by
  refine T.F_l_truths.ok sc_l_truths (fun vs H Q E h => ?_) (fun cdv A outer s H vs Q E hr h => ?_)
  · obtain ⟨a, b, ns, rfl, _⟩ := h
    rfl
  · obtain ⟨a, b, ns, rfl, ha, hb, q⟩ := h
    refine ⟨_, pss_cons (ps_if (PW.pt (pw_or (pt_not (pt_val (pe_callB (call_isinstK K) rfl T.m_isinstance boot_isinstance (pa_cons (pv 0) (pa_cons (pe_bltn (v := .ty "list") rfl T.m_list boot_list rfl) (pa_nil)))))) (pw_or1 (pt_cmpR op_ne (pe_callB (call_len_seqK K) rfl T.m_len PySem.boot_len (pa_cons (pv 0) (pa_nil))) (pe_callB (call_len_seqK K) rfl T.m_len PySem.boot_len (pa_cons (pv 1) (pa_nil))) (nomark _)))))
 (pss_one (ps_ret (pe_bl)))
 (pss_nil))
 (pss_cons (ps_for PassesOwn.never rfl (pi_listK K (pv 0)) (pg_name (i := 2) sc_l_truths.nd rfl (Or.inl rfl))
 (pss_one (ps_if (pt_not (pt_val (pe_callB (call_isinstK K) rfl T.m_isinstance boot_isinstance (pa_cons (pv 2) (pa_cons (pe_bltn (v := .ty "bool") rfl T.m_bool boot_bool rfl) (pa_nil))))))
 (pss_one (ps_ret (pe_bl)))
 (pss_nil))))
 (pss_one (ps_ret (pe_cmpR (op_eqDK K hr.units) (pv 0) (pv 1) (nomark _))))), ?_⟩
    repeat walk_at "sx"
    refine ⟨_, _, _, _, true, rfl, .lst ha, rfl, rfl, ?_⟩
    repeat walk_at "sx"
    refine r_iteN rfl ?_
    repeat walk_at "sx"
    refine ⟨a, _, rfl, .inl (SqL.of ha), ?_⟩
    repeat walk_at "sx"
    refine ⟨b, _, rfl, .inl hb, ?_⟩
    refine r_ne rfl ?_
    repeat walk_at "sx"
    refine r_iteN (by simp) ?_
    repeat walk_at "sx"
    refine ⟨a, rfl, ⟨_, SqL.of ha⟩, ?_⟩
    refine for_list (xs := ns.map V.bl) (fun i σ H' => H' = H ∧ ∃ kv, σ = [some (.ref a), some (.ref b), kv]) ⟨rfl, none, rfl⟩ (fun i σ H' _ p => by rw [p.1]; exact SqL.of ha) (fun i x σ H' hx p => ?_) (fun σ H' p => ?_)
    · obtain ⟨rfl, kv, rfl⟩ := p
      have hx0 := bl_map_inv hx
      clear hx
      obtain ⟨x, rfl, hx⟩ := hx0
      repeat walk_at "sx"
      refine ⟨_, _, _, _, true, rfl, .bl x, rfl, rfl, ?_⟩
      repeat walk_at "sx"
      refine r_iteN rfl ?_
      repeat walk_at "sx"
      exact ⟨rfl, _, rfl⟩
    · obtain ⟨rfl, kv, rfl⟩ := p
      repeat walk_at "sx"
      refine ⟨_, _, .lst (SqL.of ha) (dts_bl K _ ns), .lst hb (dts_bl K _ ns), shaped_bl ns, shaped_bl ns, ?_⟩
      have e : PyData.eqv (.list (ns.map PyData.bool)) (.list (ns.map PyData.bool)) = true := by simp [PyData.eqv, eqv_bl]
      rw [e]
      exact q
/-! #### l_house_is -/
theorem sc_l_house_is : FnScope ["found", "doors", "ways", "lamps", "k"] ["found", "doors", "ways", "lamps"] (defScope s_l_house_is) := ⟨rfl, rfl, rfl, by decide +kernel, rfl, by decide +kernel, by decide +kernel⟩
theorem b_l_house_is (T : Txt K mg t) : Binds K t.fd_l_house_is ["found", "doors", "ways", "lamps"] [] := T.F_l_house_is.binds fun _ _ _ _ _ _ us hl => by obtain ⟨_, _, _, _, rfl⟩ := len_4 hl; rfl
def sp_l_house_is (K : PySem.W.Frag) (C : Addr) : Sp := fun vs H Q _ => ∃ (p : Addr) (d : Int) (aw : Addr) (rs : List Addr) (rss : List (List Int)) (al : Addr) (ls : List Bool) (a2 : Addr) (rs2 : List Addr) (l2 : Addr), vs = [.ref p, .int d, .ref a2, .ref l2] ∧ HouseAt C H p d aw rs rss al ls ∧ Mat H a2 rs2 rss ∧ SqL K H l2 (ls.map V.bl) ∧ rss.length ≤ 1000 ∧ Q (.bl true) H
theorem ok_l_house_is (T : Txt K mg t) : FnOk P w K mg base CX0 3 t.f_l_house_is t.fd_l_house_is ["found", "doors", "ways", "lamps"] (sp_l_house_is K t.C_House) := by
  refine T.F_l_house_is.ok sc_l_house_is (fun vs H Q E h => ?_) (fun cdv A outer s H vs Q E hr h => ?_)
  · obtain ⟨p, d, aw, rs, rss, al, ls, a2, rs2, l2, rfl, _⟩ := h
    rfl
  · obtain ⟨p, d, aw, rs, rss, al, ls, a2, rs2, l2, rfl, hh, M2, hL2, hlen, q⟩ := h
    obtain ⟨dx, ho⟩ := hh.ob
    have e1 : (rs.map V.ref).length = rss.length := by rw [List.length_map, hh.ways.len]
    have e2 : (rs2.map V.ref).length = rss.length := by rw [List.length_map, M2.len]
    refine ⟨_, pss_cons (ps_if (PW.pt (pw_or (pt_not (pt_val (pe_callB (call_isinstK K) rfl T.m_isinstance boot_isinstance (pa_cons (pv 0) (pa_cons (pe_glob (v := .ref _) rfl T.mg_House rfl) (pa_nil)))))) (pw_or (pt_not (pt_val (pe_call (ok_l_whole T) (hr.mono (by decide)) rfl T.mg_l_whole T.F_l_whole.kp (b_l_whole T) .nil pass0 (pa_cons (pe_fldK K (pv 0) rfl) (pa_nil))))) (pw_or1 (pt_cmpR op_ne (pe_fldK K (pv 0) rfl) (pv 1) (nomark _))))))
 (pss_one (ps_ret (pe_bl)))
 (pss_nil))
 (pss_cons (ps_if (PW.pt (pw_or (pt_not (pt_val (pe_callB (call_isinstK K) rfl T.m_isinstance boot_isinstance (pa_cons (pe_fldK K (pv 0) rfl) (pa_cons (pe_bltn (v := .ty "list") rfl T.m_list boot_list rfl) (pa_nil)))))) (pw_or1 (pt_cmpR op_ne (pe_callB (call_len_seqK K) rfl T.m_len PySem.boot_len (pa_cons (pe_fldK K (pv 0) rfl) (pa_nil))) (pe_callB (call_len_seqK K) rfl T.m_len PySem.boot_len (pa_cons (pv 2) (pa_nil))) (nomark _)))))
 (pss_one (ps_ret (pe_bl)))
 (pss_nil))
 (pss_cons (ps_for PassesOwn.never rfl (pi_range1 rfl T.m_range (pa_cons (pe_callB (call_len_seqK K) rfl T.m_len PySem.boot_len (pa_cons (pv 2) (pa_nil))) (pa_nil))) (pg_name (i := 4) sc_l_house_is.nd rfl (Or.inl rfl))
 (pss_one (ps_if (pt_not (pt_val (pe_call (ok_l_numbers T) (hr.mono (by decide)) rfl T.mg_l_numbers T.F_l_numbers.kp (b_l_numbers T) .nil pass0 (pa_cons (pe_ix (ix_listK K) (pe_fldK K (pv 0) rfl) (pv 4) (fun _ _ => rfl)) (pa_cons (pe_ix (ix_listK K) (pv 2) (pv 4) (fun _ _ => rfl)) (pa_nil))))))
 (pss_one (ps_ret (pe_bl)))
 (pss_nil))))
 (pss_one (ps_ret (pe_call (ok_l_truths T) (hr.mono (by decide)) rfl T.mg_l_truths T.F_l_truths.kp (b_l_truths T) .nil pass0 (pa_cons (pe_fldK K (pv 0) rfl) (pa_cons (pv 3) (pa_nil)))))))), ?_⟩
    repeat walk_at "sx"
    refine ⟨_, _, _, _, true, rfl, .ins ho T.cl_House T.tc_House T.tg T.tt T.tm_House, rfl, ?_, ?_⟩
    · unfold PySem.W.kitOne; rw [if_pos (beq_self_eq_true _)]
    repeat walk_at "sx"
    refine r_iteN rfl ?_
    repeat walk_at "sx"
    refine ⟨_, rfl, p, _, dx, _, _, rfl, ho, T.cl_House, T.na_House_doors, hfs_doors _ _ _, ?_⟩
    repeat walk_at "sx"
    refine ⟨d, rfl, ?_⟩
    repeat walk_at "sx"
    refine r_iteN rfl ?_
    repeat walk_at "sx"
    refine ⟨_, rfl, p, _, dx, _, _, rfl, ho, T.cl_House, T.na_House_doors, hfs_doors _ _ _, ?_⟩
    repeat walk_at "sx"
    refine r_ne rfl ?_
    repeat walk_at "sx"
    refine r_iteN (by simp) ?_
    repeat walk_at "sx"
    refine ⟨_, rfl, p, _, dx, _, _, rfl, ho, T.cl_House, T.na_House_ways, hfs_ways _ _ _, ?_⟩
    repeat walk_at "sx"
    refine ⟨_, _, _, _, true, rfl, .lst hh.ways.top, rfl, rfl, ?_⟩
    repeat walk_at "sx"
    refine r_iteN rfl ?_
    repeat walk_at "sx"
    refine ⟨_, rfl, p, _, dx, _, _, rfl, ho, T.cl_House, T.na_House_ways, hfs_ways _ _ _, ?_⟩
    repeat walk_at "sx"
    refine ⟨aw, _, rfl, .inl (SqL.of hh.ways.top), ?_⟩
    repeat walk_at "sx"
    refine ⟨a2, _, rfl, .inl (SqL.of M2.top), ?_⟩
    refine r_ne rfl ?_
    repeat walk_at "sx"
    refine r_iteN (by rw [e1, e2]; simp) ?_
    repeat walk_at "sx"
    refine ⟨a2, _, rfl, .inl (SqL.of M2.top), ?_⟩
    rw [e2]
    repeat walk_at "sx"
    refine ⟨_, rfl, by omega, by omega, ?_⟩
    refine for_range (fun i σ H' => H' = H ∧ ∃ kv, σ = [some (.ref p), some (.int d), some (.ref a2), some (.ref l2), kv]) ⟨rfl, none, rfl⟩ (fun i σ H' hi pp => ?_) (fun σ H' pp => ?_)
    · obtain ⟨rfl, kv, rfl⟩ := pp
      have hi' : i < rss.length := by omega
      have eg := List.getElem?_eq_getElem hi'
      obtain ⟨r1, _, x1, y1⟩ := hh.ways.get eg
      obtain ⟨r2, _, x2, y2⟩ := M2.get eg
      repeat walk_at "sx"
      refine ⟨_, rfl, p, _, dx, _, _, rfl, ho, T.cl_House, T.na_House_ways, hfs_ways _ _ _, ?_⟩
      repeat walk_at "sx"
      refine r_ixL (SqL.of hh.ways.top) (atI_get' (by omega) (by rw [show ((0 : Int) + (i : Int)).toNat = i by omega]; exact x1)) ?_
      repeat walk_at "sx"
      refine r_ixL (SqL.of M2.top) (atI_get' (by omega) (by rw [show ((0 : Int) + (i : Int)).toNat = i by omega]; exact x2)) ?_
      repeat walk_at "sx"
      refine ⟨r1, r2, _, _, rfl, y1, SqL.of y2, ?_⟩
      repeat walk_at "sx"
      refine r_iteN (by simp) ?_
      repeat walk_at "sx"
      exact ⟨rfl, _, rfl⟩
    · obtain ⟨rfl, kv, rfl⟩ := pp
      repeat walk_at "sx"
      refine ⟨_, rfl, p, _, dx, _, _, rfl, ho, T.cl_House, T.na_House_lamps, hfs_lamps _ _ _, ?_⟩
      repeat walk_at "sx"
      exact ⟨al, l2, ls, rfl, hh.lamps, hL2, q⟩
/-! #### l_stands_under -/
theorem sc_l_stands_under : FnScope ["e"] ["e"] (defScope s_l_stands_under) := ⟨rfl, rfl, rfl, by decide +kernel, rfl, by decide +kernel, by decide +kernel⟩
theorem b_l_stands_under (T : Txt K mg t) : Binds K t.fd_l_stands_under ["e"] [] := T.F_l_stands_under.binds fun _ _ _ _ _ _ us hl => by obtain ⟨_, rfl⟩ := len_1 hl; rfl
def sp_l_stands_under (K : PySem.W.Frag) (CH : Addr) : Sp := fun vs H Q _ => ∃ (ea C : Addr) (x : Str), vs = [.ref ea] ∧ H ea = some (.ext (ExcAt ea C)) ∧ ExcK K x C ∧ PySem.W.kitOne K (.ref C) (.ref CH) = some true ∧ PySem.W.kitOne K (.ref C) (.type "ValueError") = some true ∧ Q (.bl true) H
theorem ok_l_stands_under (T : Txt K mg t) : FnOkH P w K mg base CX0 1 t.f_l_stands_under t.fd_l_stands_under ["e"] (sp_l_stands_under K t.C_HouseError) := by
  refine T.F_l_stands_under.okH sc_l_stands_under (fun vs H Q E h => ?_) (fun cdv A outer s H vs Q E hr h => ?_)
  · obtain ⟨ea, C, x, rfl, _⟩ := h
    rfl
  · obtain ⟨ea, C, x, rfl, he, O, k1, k2, q⟩ := h
    refine ⟨_, pss_one (ps_ret (pe_and (pe_callB (call_isinstX K) rfl T.m_isinstance boot_isinstance (pa_cons (pv 0) (pa_cons (pe_glob (v := .ref _) rfl T.mg_HouseError rfl) (pa_nil)))) (pe_one (pe_callB (call_isinstX K) rfl T.m_isinstance boot_isinstance (pa_cons (pv 0) (pa_cons (pe_bltn (v := .ty "ValueError") (u := .type "ValueError") rfl T.m_ValueError (by decide +kernel) rfl) (pa_nil))))))), ?_⟩
    repeat walk_at "sx"
    refine ⟨ea, C, x, _, _, true, rfl, he, O, rfl, k1, ?_⟩
    repeat walk_at "sx"
    refine r_iteP rfl ?_
    repeat walk_at "sx"
    exact ⟨ea, C, x, _, _, true, rfl, he, O, rfl, k2, q⟩
/-! #### l_mixture -/
theorem sc_l_mixture : FnScope ["ways", "lamps", "others", "lights", "table", "rows", "places", "due", "k", "door", "pair"] ["ways", "lamps", "others", "lights", "table"] (defScope s_l_mixture) := ⟨rfl, rfl, rfl, by decide +kernel, rfl, by decide +kernel, by decide +kernel⟩
theorem b_l_mixture (T : Txt K mg t) : Binds K t.fd_l_mixture ["ways", "lamps", "others", "lights", "table"] [] := T.F_l_mixture.binds fun _ _ _ _ _ _ us hl => by obtain ⟨_, _, _, _, _, rfl⟩ := len_5 hl; rfl
structure DU (H H' : Hp) (dl nd pl : Addr) (ds : List Addr) (rows : List (List Int)) : Prop where
  top : H' dl = some (.lst (ds.map V.ref))
  len : ds.length = rows.length
  row : ∀ (j : Nat) b r, ds[j]? = some b → rows[j]? = some r → H' b = some (.lst (r.map V.int))
  dn : (dl :: ds).Nodup
  new : ∀ b ∈ dl :: ds, H b = none
  sep : ∀ b ∈ dl :: ds, b ≠ nd ∧ b ≠ pl
theorem DU.keep {H H' H2 : Hp} {dl nd pl : Addr} {ds : List Addr} {rows : List (List Int)} (D : DU H H' dl nd pl ds rows) (k : ∀ b ∈ dl :: ds, ∀ o, H' b = some o → H2 b = some o) : DU H H2 dl nd pl ds rows :=
  ⟨k _ (by simp) _ D.top, D.len, fun j b r h1 h2 => k _ (by simp [List.mem_of_getElem? h1]) _ (D.row j b r h1 h2), D.dn, D.new, D.sep⟩
theorem DU.same {H H' H2 : Hp} {dl nd pl : Addr} {ds : List Addr} {rows : List (List Int)} (D : DU H H' dl nd pl ds rows) (s : Same H' H2) : DU H H2 dl nd pl ds rows := D.keep fun b _ o e => s b o e
theorem DU.open {H H' : Hp} {dl nd pl : Addr} {ds : List Addr} {rows : List (List Int)} (D : DU H H' dl nd pl ds rows) {e : Addr} (he : H e = none) (he' : H' e = some (.lst [])) (hd : e ∉ dl :: ds) (hs : e ≠ nd ∧ e ≠ pl) : DU H (upd H' dl (.lst (ds.map V.ref ++ [.ref e]))) dl nd pl (ds ++ [e]) (rows ++ [[]]) := by
  have dn := List.nodup_cons.mp D.dn
  have k : ∀ b o, b ≠ dl → H' b = some o → (upd H' dl (.lst (ds.map V.ref ++ [.ref e]))) b = some o := fun b o hb h => by rw [upd_ne hb]; exact h
  have ed : e ≠ dl := fun z => hd (by rw [z]; simp)
  refine ⟨by rw [upd_same, List.map_append]; rfl, by simp [D.len], fun j b r h1 h2 => ?_, ?_, fun b hb => ?_, fun b hb => ?_⟩
  · by_cases hj : j < ds.length
    · rw [List.getElem?_append_left hj] at h1
      rw [List.getElem?_append_left (by rw [← D.len]; exact hj)] at h2
      exact k _ _ (fun z => dn.1 (z ▸ List.mem_of_getElem? h1)) (D.row j b r h1 h2)
    · have hl := (List.getElem?_eq_some_iff.mp h1).1
      rw [List.length_append, List.length_singleton] at hl
      have hj2 : j = ds.length := by omega
      rw [hj2, List.getElem?_append_right (Nat.le_refl _), Nat.sub_self] at h1
      rw [hj2, D.len, List.getElem?_append_right (Nat.le_refl _), Nat.sub_self] at h2
      cases h1; cases h2
      exact k _ _ ed he'
  · have : (dl :: (ds ++ [e])).Nodup := by rw [← List.cons_append]; exact nd_snoc D.dn hd
    exact this
  · have hb : b ∈ (dl :: ds) ++ [e] := hb
    rcases List.mem_append.mp hb with hb | hb
    · exact D.new b hb
    · rw [List.mem_singleton.mp hb]; exact he
  · have hb : b ∈ (dl :: ds) ++ [e] := hb
    rcases List.mem_append.mp hb with hb | hb
    · exact D.sep b hb
    · rw [List.mem_singleton.mp hb]; exact hs
theorem DU.put {H H' : Hp} {dl nd pl : Addr} {ds : List Addr} {rows : List (List Int)} {r : List Int} {e : Addr} (D : DU H H' dl nd pl (ds ++ [e]) (rows ++ [r])) (x : Int) : DU H (upd H' e (.lst (r.map V.int ++ [.int x]))) dl nd pl (ds ++ [e]) (rows ++ [r ++ [x]]) := by
  have dn := List.nodup_cons.mp D.dn
  have de : dl ≠ e := fun z => dn.1 (by rw [z]; simp)
  have hl : ds.length = rows.length := by have := D.len; simpa using this
  have ne : ∀ (j : Nat) b, j < ds.length → ds[j]? = some b → b ≠ e := fun j b hj h z => by
    have h2 := dn.2
    rw [List.nodup_append] at h2
    exact h2.2.2 b (List.mem_of_getElem? h) e (by simp) z
  refine ⟨by rw [upd_ne de]; exact D.top, by simp [hl], fun j b r' h1 h2 => ?_, D.dn, D.new, D.sep⟩
  by_cases hj : j < ds.length
  · rw [List.getElem?_append_left (by rw [← hl]; exact hj)] at h2
    have h1' := h1
    rw [List.getElem?_append_left hj] at h1'
    rw [upd_ne (ne j b hj h1')]
    exact D.row j b r' h1 (by rw [List.getElem?_append_left (by rw [← hl]; exact hj)]; exact h2)
  · have hlt := (List.getElem?_eq_some_iff.mp h1).1
    rw [List.length_append, List.length_singleton] at hlt
    have hj2 : j = ds.length := by omega
    rw [hj2, List.getElem?_append_right (Nat.le_refl _), Nat.sub_self] at h1
    rw [hj2, hl, List.getElem?_append_right (Nat.le_refl _), Nat.sub_self] at h2
    cases h1; cases h2
    rw [upd_same, List.map_append]; rfl
theorem DU.mat {H H' : Hp} {dl nd pl : Addr} {ds : List Addr} {rows : List (List Int)} (D : DU H H' dl nd pl ds rows) : Mat H' dl ds rows := ⟨D.top, D.len, D.row, D.dn⟩
def sp_l_mixture (K : PySem.W.Frag) : Sp := fun vs H Q _ => ∃ (aw : Addr) (rs : List Addr) (rss : List (List Int)) (al : Addr) (ls : List Bool) (ao : Addr) (rs2 : List Addr) (sss : List (List Int)) (ol : Addr) (ls2 : List Bool) (ta : Addr) (tb : List Bool) (d : Int), vs = [.ref aw, .ref al, .ref ao, .ref ol, .ref ta] ∧ Mat H aw rs rss ∧ H al = some (.lst (ls.map V.bl)) ∧ Mat H ao rs2 sss ∧ H ol = some (.lst (ls2.map V.bl)) ∧ H ta = some (.lst (tb.map V.bl)) ∧ tb.length = 4 ∧ Ways d rss ∧ Ways d sss ∧ 0 < rss.length ∧ 0 < sss.length ∧ 1 ≤ d ∧ d ≤ 6 ∧ ls.length = rss.length ∧ ls2.length = sss.length ∧ rss.length * sss.length ≤ 900 ∧
  ∀ H' pr dl ds ml, Same H H' → H' pr = some (.lst [.ref dl, .ref ml]) → Mat H' dl ds (mixW rss sss) → H' ml = some (.lst ((mixL rss sss ls ls2 tb).map V.bl)) → Q (.ref pr) H'
def F10 (H : Hp) (rss sss : List (List Int)) (aw al ao ol ta rl pd dl : Addr) (i : Nat) (σ : L2.St) (H' : Hp) : Prop := ∃ ts ds k8 k9 k10, NP H H' pd rl (runP rss sss i) ts ∧ DU H H' dl pd rl ds ((mixW rss sss).take i) ∧ σ = [some (.ref aw), some (.ref al), some (.ref ao), some (.ref ol), some (.ref ta), some (.ref rl), some (.ref pd), some (.ref dl), k8, k9, k10]
theorem ok_l_mixture (T : Txt K mg t) : FnOk P w K mg base CX0 1 t.f_l_mixture t.fd_l_mixture ["ways", "lamps", "others", "lights", "table"] (sp_l_mixture K) := by
  refine T.F_l_mixture.ok sc_l_mixture (fun vs H Q E h => ?_) (fun cdv A outer s H vs Q E hr h => ?_)
  · obtain ⟨aw, rs, rss, al, ls, ao, rs2, sss, ol, ls2, ta, tb, d, rfl, _⟩ := h
    rfl
  · obtain ⟨aw, rs, rss, al, ls, ao, rs2, sss, ol, ls2, ta, tb, d, rfl, M1, hal, M2, hol, hta, h4, W1, W2, r1, r2, hd1, hd6, hll, hll2, hsz, q⟩ := h
    have hWl : (mixW rss sss).length = (finP rss sss).length := by unfold mixW; rw [List.length_map]
    have hFl := finP_len W1 W2 r1 r2
    have hr9 : rss.length ≤ 900 := Nat.le_trans (Nat.le_mul_of_pos_right _ r2) hsz
    have hs9 : sss.length ≤ 900 := Nat.le_trans (Nat.le_mul_of_pos_left _ r1) hsz
    refine exO (pssO_cons (ps_set (i := 5) sc_l_mixture.nd rfl (Or.inl rfl) (pe_lst (pa_cons (pe_tup (pa_cons (pe_int) (pa_cons (pe_int) (pa_nil)))) (pa_nil))))
 (pssO_consT (i := 6) hr.units1 sc_l_mixture.nd rfl (Or.inl rfl) (pe_tup (pa_cons (pe_int) (pa_cons (pe_int) (pa_nil)))) (pe_int)
 (pss_cons (ps_set (i := 7) sc_l_mixture.nd rfl (Or.inl rfl) (pe_lst (pa_nil)))
 (pss_cons (ps_for PassesOwn.never rfl (pi_range1 rfl T.m_range (pa_cons (pe_op op_mul (pe_callB (call_len_seqK K) rfl T.m_len PySem.boot_len (pa_cons (pv 0) (pa_nil))) (pe_callB (call_len_seqK K) rfl T.m_len PySem.boot_len (pa_cons (pv 2) (pa_nil)))) (pa_nil))) (pg_name (i := 8) sc_l_mixture.nd rfl (Or.inl rfl))
 (pss_one (ps_join (ps_if (pt_cmpR op_lt (pv 8) (pe_callB (call_len_seqK K) rfl T.m_len PySem.boot_len (pa_cons (pv 5) (pa_nil))) (nomark _))
 (pss_cons (ps_expr (pe_bmK K PySem.F.plainAttrs_list PySem.F.slot_list_append PySem.F.type_list_append mt_append (pv 7) (pa_cons (pe_lst (pa_nil)) (pa_nil) star_lst)))
 (pss_one (ps_for PassesOwn.never rfl (pi_range1 rfl T.m_range (pa_cons (pe_callB (call_len_seqK K) rfl T.m_len PySem.boot_len (pa_cons (pe_ix (ix_listK K) (pv 0) (pe_int) (fun _ _ => rfl)) (pa_nil))) (pa_nil))) (pg_name (i := 9) sc_l_mixture.nd rfl (Or.inl rfl))
 (pss_cons (ps_set (i := 10) sc_l_mixture.nd rfl (Or.inl rfl) (pe_tup (pa_cons (pe_ix (ix_listK K) (pe_ix (ix_listK K) (pv 0) (pe_ix (ix_tupK K) (pe_ix (ix_listK K) (pv 5) (pv 8) (fun _ _ => rfl)) (pe_int) (fun _ _ => rfl)) (fun _ _ => rfl)) (pv 9) (fun _ _ => rfl)) (pa_cons (pe_ix (ix_listK K) (pe_ix (ix_listK K) (pv 2) (pe_ix (ix_tupK K) (pe_ix (ix_listK K) (pv 5) (pv 8) (fun _ _ => rfl)) (pe_int) (fun _ _ => rfl)) (fun _ _ => rfl)) (pv 9) (fun _ _ => rfl)) (pa_nil)))))
 (pss_cons (ps_join (ps_if (pt_cmp (pc_dnotin hr.units1 (pv 10) (pv 6)))
 (pss_cons (ps_dput hr.units1 (pv 6) (pv 10) (pe_callB (call_len_seqK K) rfl T.m_len PySem.boot_len (pa_cons (pv 5) (pa_nil))) rfl)
 (pss_one (ps_expr (pe_bmK K PySem.F.plainAttrs_list PySem.F.slot_list_append PySem.F.type_list_append mt_append (pv 5) (pa_cons (pv 10) (pa_nil))))))
 (pss_nil)))
 (pss_one (ps_expr (pe_bmK K PySem.F.plainAttrs_list PySem.F.slot_list_append PySem.F.type_list_append mt_append (pe_ix (ix_listK K) (pv 7) (pv 8) (fun _ _ => rfl)) (pa_cons (pe_dget hr.units1 (pv 6) (pv 10) (fun _ _ => rfl)) (pa_nil))))))))))
 (pss_nil)))))
 (pss_one (ps_ret (pe_lst (pa_cons (pv 7) (pa_cons (pe_comp (N := ["ways", "lamps", "others", "lights", "table", "rows", "places", "due", "k", "door", "pair"]) (sc0 := (defScope s_l_mixture)) (N' := ["pair", "lamps", "lights", "table"]) (caps := [none, some 1, some 3, some 4]) (by exact ⟨rfl, by decide +kernel, by decide +kernel, by decide +kernel, rfl, rfl, by decide +kernel⟩) rfl (pi_listK K (pv 5)) (fun _ _ _ _ _ _ => pg_name (i := 0) (show List.Nodup (["pair", "lamps", "lights", "table"] : List Str) from by decide +kernel) rfl (Or.inl rfl)) (fun _ _ _ _ _ _ => pe_ix (ix_listK K) (pv 3) (pe_op op_add (pe_op op_mul (pe_int) (pe_callTy call_int1 rfl T.m_int boot_int (pa_cons (pe_ix (ix_listK K) (pv 1) (pe_ix (ix_tupK K) (pv 0) (pe_int) (fun _ _ => rfl)) (fun _ _ => rfl)) (pa_nil)))) (pe_callTy call_int1 rfl T.m_int boot_int (pa_cons (pe_ix (ix_listK K) (pv 2) (pe_ix (ix_tupK K) (pv 0) (pe_int) (fun _ _ => rfl)) (fun _ _ => rfl)) (pa_nil)))) (fun _ _ => rfl))) (pa_nil)))))))))) ?_
    repeat walk_at "sx"
    refine ⟨by show 2 ≤ sizeLine; decide, fun t0 ht0 => ?_⟩
    have sA : Same H (upd H t0 (.tup [.int 0, .int 0])) := Same.upd_new ht0
    have t0A : (upd H t0 (.tup [.int 0, .int 0])) t0 = some (.tup [.int 0, .int 0]) := upd_same
    generalize upd H t0 (.tup [.int 0, .int 0]) = HA at sA t0A ⊢
    repeat walk_at "sx"
    refine ⟨by show 1 ≤ sizeLine; decide, fun rl hrl => ?_⟩
    have sB : Same HA (upd HA rl (.lst [.ref t0])) := Same.upd_new hrl
    have rlB : (upd HA rl (.lst [.ref t0])) rl = some (.lst ([t0].map V.ref)) := upd_same
    generalize upd HA rl (.lst [.ref t0]) = HB at sB rlB ⊢
    repeat walk_at "sx"
    intro pd hpd
    repeat walk_at "sx"
    refine ⟨by show 2 ≤ sizeLine; decide, fun tp htp => ?_⟩
    repeat walk_at "sx"
    have n_mt : pd ≠ tp := fun z => by rw [← z, upd_same] at htp; cases htp
    have f_tp : HB tp = none := by rw [upd_ne (Ne.symm n_mt)] at htp; exact htp
    refine ⟨tp, [.inl 0, .inl 0], rfl, upd_same, by rw [upd_ne n_mt]; exact upd_same, ?_⟩
    have sC : Same HB (upd (upd (upd HB pd (.dT [])) tp (.tup [.int 0, .int 0])) pd (.dT [([.inl 0, .inl 0], .int 0)])) := ((Same.upd_new hpd).upd_fresh f_tp).upd_fresh hpd
    have dC : (upd (upd (upd HB pd (.dT [])) tp (.tup [.int 0, .int 0])) pd (.dT [([.inl 0, .inl 0], .int 0)])) pd = some (.dT (numKV [(0, 0)] 0)) := upd_same
    generalize upd (upd (upd HB pd (.dT [])) tp (.tup [.int 0, .int 0])) pd (.dT [([.inl 0, .inl 0], .int 0)]) = HC at sC dC ⊢
    have npr : pd ≠ rl := fun z => by rw [z, rlB] at hpd; cases hpd
    have B0 : NP H HC pd rl (runP rss sss 0) [t0] := ⟨sA.trans (sB.trans sC), dC, sC _ _ rlB, rfl, fun i t p h1 h2 => by
      cases i with
      | zero => cases h1; cases h2; exact sC _ _ (sB _ _ t0A)
      | succ i => simp at h1, (sA.trans sB).free hpd, sA.free hrl, npr⟩
    clear sA t0A sB rlB sC dC htp n_mt f_tp hpd hrl ht0
    repeat walk_at "sx"
    refine ⟨Nat.zero_le _, fun dl hdl => ?_⟩
    have sD : Same HC (upd HC dl (.lst [])) := Same.upd_new hdl
    have dlD : (upd HC dl (.lst [])) dl = some (.lst (([] : List Addr).map V.ref)) := upd_same
    have D0 : DU H (upd HC dl (.lst [])) dl pd rl [] ((mixW rss sss).take 0) := ⟨dlD, by simp, fun j b r h => by simp at h, by simp, fun b hb => by rw [List.mem_singleton.mp hb]; exact B0.same.free hdl, fun b hb => by
      rw [List.mem_singleton.mp hb]
      exact ⟨(fun z => by rw [z, B0.dict] at hdl; cases hdl), (fun z => by rw [z, B0.list] at hdl; cases hdl)⟩⟩
    generalize upd HC dl (.lst []) = HD at sD dlD D0 ⊢
    have B1 := B0.tick sD
    clear B0 sD dlD hdl
    repeat walk_at "sx"
    refine ⟨aw, _, rfl, .inl (SqL.of (B1.same _ _ M1.top)), ?_⟩
    repeat walk_at "sx"
    refine ⟨ao, _, rfl, .inl (SqL.of (B1.same _ _ M2.top)), ?_⟩
    rw [List.length_map, List.length_map, M1.len, M2.len]
    refine ⟨_, _, rfl, rfl, .inl ⟨by omega, by omega⟩, ?_⟩
    repeat walk_at "sx"
    have hmul : (rss.length : Int) * (sss.length : Int) = ((rss.length * sss.length : Nat) : Int) := by simp
    refine ⟨((rss.length * sss.length : Nat) : Int), by show [V.int ((rss.length : Int) * (sss.length : Int))] = _; rw [hmul], by omega, by omega, ?_⟩
    refine for_range (F10 H rss sss aw al ao ol ta rl pd dl) ⟨[t0], [], _, _, _, B1, D0, rfl⟩ (fun i σ H1 hi pp => ?_) (fun σ H1 pp => ?_)
    · obtain ⟨ts, ds, k8, k9, k10, B, D, rfl⟩ := pp
      clear B1 D0
      have e0 : (0 : Int) + (i : Int) = (i : Int) := by omega
      rw [e0]
      repeat walk_at "sx"
      refine r_join (F10 H rss sss aw al ao ol ta rl pd dl (i + 1)) ?_ (fun σ' H' z => z)
      repeat walk_at "sx"
      refine ⟨rl, _, rfl, .inl (SqL.of B.list), ?_⟩
      rw [List.length_map, B.len]
      repeat walk_at "sx"
      refine r_ite (fun hc => ?_) (fun hc => ?_)
      · have hc : i < (runP rss sss i).length := by simpa using hc
        obtain ⟨p, hp⟩ : ∃ p, (runP rss sss i)[i]? = some p := ⟨_, List.getElem?_eq_getElem hc⟩
        obtain ⟨ti, hti⟩ : ∃ x, ts[i]? = some x := ⟨_, List.getElem?_eq_getElem (by rw [B.len]; exact hc)⟩
        obtain ⟨rr, hrr⟩ := finP_pre W1 W2 r1 r2 i
        have hpF : (finP rss sss)[i]? = some p := by rw [hrr, List.getElem?_append_left hc]; exact hp
        have hiF : i < (finP rss sss).length := (List.getElem?_eq_some_iff.mp hpF).1
        have hin := runP_in W1 W2 r1 r2 i p (List.mem_of_getElem? hp)
        have hal' := ahead_len W1 W2 hin
        have enx : runP rss sss (i + 1) = addAll (runP rss sss i) (ahead rss sss p) := by
          show turnP rss sss (runP rss sss i) i = _
          unfold turnP; rw [hp]
        have ewx : (mixW rss sss).take (i + 1) = (mixW rss sss).take i ++ [(ahead rss sss p).map (numP (finP rss sss))] := by
          refine take_snocA ?_
          unfold mixW; rw [List.getElem?_map, hpF]; rfl
        obtain ⟨rr1, hrr1⟩ := finP_pre W1 W2 r1 r2 (i + 1)
        have hdl : ds.length = i := by rw [D.len, List.length_take, hWl]; omega
        repeat walk_at "sx"
        refine ⟨.inl ⟨rfl, _, SqL.of D.top⟩, ?_⟩
        repeat walk_at "sx"
        refine ⟨Nat.zero_le _, fun e he => ?_⟩
        have s2 : Same H1 (upd H1 e (.lst [])) := Same.upd_new he
        have e2 : (upd H1 e (.lst [])) e = some (.lst []) := upd_same
        have ed : e ∉ dl :: ds := fun z => by
          rcases List.mem_cons.mp z with z | z
          · rw [z, D.top] at he; cases he
          · obtain ⟨j, hj⟩ := List.getElem?_of_mem z
            have hl := (List.getElem?_eq_some_iff.mp hj).1
            rw [D.row j e _ hj (List.getElem?_eq_getElem (by rw [← D.len]; exact hl))] at he; cases he
        have es : e ≠ pd ∧ e ≠ rl := ⟨(fun z => by rw [z, B.dict] at he; cases he), (fun z => by rw [z, B.list] at he; cases he)⟩
        generalize upd H1 e (.lst []) = H2 at s2 e2 ⊢
        have B2 := B.tick s2
        have D2 := D.same s2
        repeat walk_at "sx"
        refine ⟨dl, _, _, rfl, rfl, D2.top, small1000 (by rw [List.length_map]; omega), ?_⟩
        have D3 := D2.open (B.same.free he) e2 ed es
        have B3 : NP H (upd H2 dl (.lst (ds.map V.ref ++ [.ref e]))) pd rl (runP rss sss i) ts := by
          have dsep := D.sep dl (by simp)
          refine ⟨fun b o h => by rw [upd_ne (fun z => by rw [z, D.new dl (by simp)] at h; cases h)]; exact B2.same b o h, by rw [upd_ne (Ne.symm dsep.1)]; exact B2.dict, by rw [upd_ne (Ne.symm dsep.2)]; exact B2.list, B2.len, fun j u g h1 h2 => ?_, B2.n1, B2.n2, B2.ne⟩
          have := B2.tup j u g h1 h2
          rw [upd_ne (fun z => by rw [z, D2.top] at this; cases this)]; exact this
        generalize upd H2 dl (.lst (ds.map V.ref ++ [.ref e])) = H3 at D3 B3 ⊢
        clear B2 D2 B D s2 e2
        obtain ⟨row0, hrow0⟩ : ∃ row0, rss[0]? = some row0 := ⟨_, List.getElem?_eq_getElem r1⟩
        obtain ⟨hrl0, _⟩ := W1.row row0 (List.mem_of_getElem? hrow0)
        obtain ⟨a0, _, x2, x3⟩ := (M1.same B3.same).get hrow0
        repeat walk_at "sx"
        refine r_ixL (SqL.of (B3.same _ _ M1.top)) (atI_nat (j := 0) x2) ?_
        repeat walk_at "sx"
        refine ⟨a0, _, rfl, .inl (SqL.of x3), ?_⟩
        rw [List.length_map]
        repeat walk_at "sx"
        refine ⟨_, rfl, by omega, by omega, ?_⟩
        refine for_range (fun j σ H' => ∃ ts k9 k10, NP H H' pd rl (addAll (runP rss sss i) ((ahead rss sss p).take j)) ts ∧ ts[i]? = some ti ∧ DU H H' dl pd rl (ds ++ [e]) ((mixW rss sss).take i ++ [((ahead rss sss p).take j).map (numP (finP rss sss))]) ∧ σ = [some (.ref aw), some (.ref al), some (.ref ao), some (.ref ol), some (.ref ta), some (.ref rl), some (.ref pd), some (.ref dl), some (.int (i : Int)), k9, k10]) ⟨ts, _, _, B3, hti, D3, rfl⟩ (fun j σ H4 hj pp => ?_) (fun σ H4 pp => ?_)
        · obtain ⟨ts4, k9, k10, B4, hti4, D4, rfl⟩ := pp
          clear B3 D3
          have e0 : (0 : Int) + (j : Int) = (j : Int) := by omega
          rw [e0]
          have hjd : j < (ahead rss sss p).length := by omega
          obtain ⟨g, hg⟩ : ∃ g, (ahead rss sss p)[j]? = some g := ⟨_, List.getElem?_eq_getElem hjd⟩
          have hpi4 : (addAll (runP rss sss i) ((ahead rss sss p).take j))[i]? = some p := by
            obtain ⟨r, hr⟩ := addAll_pre ((ahead rss sss p).take j) (runP rss sss i)
            rw [hr, List.getElem?_append_left hc]; exact hp
          have htt := B4.tup i ti p hti4 hpi4
          have hl3 : (addAll (runP rss sss i) ((ahead rss sss p).take j)).length ≤ 950 := by
            have h1 := addAll_len ((ahead rss sss p).take j) (runP rss sss i)
            rw [List.length_take] at h1
            have h2 : (runP rss sss i).length ≤ (finP rss sss).length := by rw [hrr, List.length_append]; omega
            omega
          obtain ⟨⟨x0, x1⟩, y0, y1⟩ := id hin
          have hx : p.1.toNat < rss.length := by omega
          have hy : p.2.toNat < sss.length := by omega
          have ea : ahead rss sss p = (rss[p.1.toNat]).zip (sss[p.2.toNat]) := by
            unfold ahead rowI
            rw [List.getD_eq_getElem?_getD, List.getD_eq_getElem?_getD, List.getElem?_eq_getElem hx, List.getElem?_eq_getElem hy]; rfl
          obtain ⟨c1, _, c1', hc1⟩ := (M1.same B4.same).get (List.getElem?_eq_getElem hx)
          obtain ⟨c2, _, c2', hc2⟩ := (M2.same B4.same).get (List.getElem?_eq_getElem hy)
          have hg' := hg
          rw [ea] at hg'
          obtain ⟨g1, g2⟩ := List.getElem?_zip_eq_some.mp hg'
          have hrix : (ts4.map V.ref)[i]? = some (.ref ti) := by rw [List.getElem?_map, hti4]; rfl
          have nxt : ∃ r, finP rss sss = addAll (runP rss sss i) ((ahead rss sss p).take (j + 1)) ++ r := by
            have e1 : addAll (runP rss sss i) (ahead rss sss p) = addAll (addAll (runP rss sss i) ((ahead rss sss p).take (j + 1))) ((ahead rss sss p).drop (j + 1)) := by
              have e2 : addAll (runP rss sss i) ((ahead rss sss p).take (j + 1) ++ (ahead rss sss p).drop (j + 1)) = addAll (addAll (runP rss sss i) ((ahead rss sss p).take (j + 1))) ((ahead rss sss p).drop (j + 1)) := by unfold addAll; rw [List.foldl_append]
              rw [List.take_append_drop] at e2
              exact e2
            obtain ⟨r, hr⟩ := addAll_pre ((ahead rss sss p).drop (j + 1)) (addAll (runP rss sss i) ((ahead rss sss p).take (j + 1)))
            exact ⟨r ++ rr1, by rw [hrr1, enx, e1, hr, List.append_assoc]⟩
          rw [take_snocA hg, addAll_snoc] at nxt
          rw [take_snocA hg, addAll_snoc, List.map_append]
          generalize addAll (runP rss sss i) ((ahead rss sss p).take j) = L4 at B4 hl3 hpi4 nxt ⊢
          repeat walk_at "sx"
          refine r_ixL (SqL.of B4.list) (atI_nat (j := i) hrix) ?_
          repeat walk_at "sx"
          refine ⟨ti, _, 0, _, rfl, rfl, SqT.of htt, atI_nat (j := 0) rfl, ?_⟩
          refine r_ixL (SqL.of (B4.same _ _ M1.top)) (atI_get' x0 c1') ?_
          repeat walk_at "sx"
          refine r_ixL (SqL.of hc1) (atI_nat (j := j) (by rw [List.getElem?_map, g1]; rfl)) ?_
          repeat walk_at "sx"
          refine r_ixL (SqL.of B4.list) (atI_nat (j := i) hrix) ?_
          repeat walk_at "sx"
          refine ⟨ti, _, 1, _, rfl, rfl, SqT.of htt, atI_nat (j := 1) rfl, ?_⟩
          refine r_ixL (SqL.of (B4.same _ _ M2.top)) (atI_get' y0 c2') ?_
          repeat walk_at "sx"
          refine r_ixL (SqL.of hc2) (atI_nat (j := j) (by rw [List.getElem?_map, g2]; rfl)) ?_
          repeat walk_at "sx"
          refine ⟨by show 2 ≤ sizeLine; decide, fun u hu => ?_⟩
          have s5 : Same H4 (upd H4 u (.tup [.int g.1, .int g.2])) := Same.upd_new hu
          have u5 : (upd H4 u (.tup [.int g.1, .int g.2])) u = some (.tup ((kP g).map kV)) := upd_same
          generalize upd H4 u (.tup [.int g.1, .int g.2]) = H5 at s5 u5 ⊢
          have B5 := B4.tick s5
          have D5 := D4.same s5
          have hti5 : ts4[i]? = some ti := hti4
          clear B4 D4 s5 hu htt hrix hc1 hc2
          have hv := val_num g L4 0
          repeat walk_at "sx"
          refine r_join (fun σ' H' => ∃ ts, NP H H' pd rl (addP L4 g) ts ∧ ts[i]? = some ti ∧ DU H H' dl pd rl (ds ++ [e]) ((mixW rss sss).take i ++ [((ahead rss sss p).take j).map (numP (finP rss sss))]) ∧ H' u = some (.tup ((kP g).map kV)) ∧ σ' = [some (.ref aw), some (.ref al), some (.ref ao), some (.ref ol), some (.ref ta), some (.ref rl), some (.ref pd), some (.ref dl), some (.int (i : Int)), some (.int (j : Int)), some (.ref u)]) ?_ ?_
          · repeat walk_at "sx"
            refine ⟨pd, _, rfl, .inr ⟨_, _, u, .inl B5.dict, rfl, u5, rfl⟩, ?_⟩
            rw [hv]
            unfold addP
            by_cases hm : g ∈ L4
            · rw [if_pos hm, if_pos hm]
              repeat walk_at "sx"
              refine r_iteN rfl ?_
              repeat walk_at "sx"
              exact ⟨ts4, B5, hti5, D5, u5, rfl⟩
            · rw [if_neg hm, if_neg hm]
              rw [if_neg hm] at hv
              repeat walk_at "sx"
              refine r_iteP rfl ?_
              repeat walk_at "sx"
              refine ⟨rl, _, rfl, .inl (SqL.of B5.list), ?_⟩
              rw [List.length_map, B5.len]
              repeat walk_at "sx"
              refine ⟨pd, _, rfl, DPut.t B5.dict u5 (by rw [numKV_len]; exact small1000 (by omega)), ?_⟩
              rw [putK_new _ hv]
              repeat walk_at "sx"
              refine ⟨.inl ⟨rfl, _, SqL.of (by rw [upd_ne (Ne.symm B5.ne)]; exact B5.list)⟩, ?_⟩
              repeat walk_at "sx"
              refine ⟨rl, _, _, rfl, rfl, (by rw [upd_ne (Ne.symm B5.ne)]; exact B5.list), small1000 (by rw [List.length_map, B5.len]; omega), ?_⟩
              have nu := B5.out u5
              exact ⟨ts4 ++ [u], B5.add u5, by rw [List.getElem?_append_left (List.getElem?_eq_some_iff.mp hti5).1]; exact hti5, D5.keep (fun b hb o h => by rw [upd_ne (D5.sep b hb).2, upd_ne (D5.sep b hb).1]; exact h), by rw [upd_ne nu.2, upd_ne nu.1]; exact u5, rfl⟩
          rintro σ' H6 ⟨ts6, B6, hti6, D6, u6, rfl⟩
          clear B5 D5 hv
          have hm6 := addP_mem L4 g
          have hv6 := val_num g (addP L4 g) 0
          rw [if_pos hm6, Nat.zero_add] at hv6
          have hnum : ((addP L4 g).idxOf g : Nat) = ((finP rss sss).idxOf g : Nat) := by
            obtain ⟨r, hr⟩ := nxt
            rw [hr, List.idxOf_append, if_pos hm6]
          rw [hnum] at hv6
          have hei : ((ds ++ [e]).map V.ref)[i]? = some (.ref e) := by rw [List.getElem?_map, List.getElem?_append_right (by omega), hdl, Nat.sub_self]; rfl
          have he6 := D6.row i e (((ahead rss sss p).take j).map (numP (finP rss sss))) (by rw [List.getElem?_append_right (by omega), hdl, Nat.sub_self]; rfl) (by rw [List.getElem?_append_right (by rw [List.length_take, hWl]; omega), List.length_take, hWl, Nat.min_eq_left (Nat.le_of_lt hiF), Nat.sub_self]; rfl)
          repeat walk_at "sx"
          refine r_ixL (SqL.of D6.top) (atI_nat (j := i) hei) ?_
          repeat walk_at "sx"
          refine ⟨.inl ⟨rfl, _, SqL.of he6⟩, ?_⟩
          repeat walk_at "sx"
          refine ⟨pd, _, rfl, .inr ⟨_, kP g, u, .inl B6.dict, rfl, u6, hv6.symm⟩, ?_⟩
          repeat walk_at "sx"
          refine ⟨e, _, _, rfl, rfl, he6, small1000 (by simp; omega), ?_⟩
          have D7 := D6.put (numP (finP rss sss) g)
          have esep := D6.sep e (by simp)
          have B7 : NP H (upd H6 e (.lst ((((ahead rss sss p).take j).map (numP (finP rss sss))).map V.int ++ [.int (numP (finP rss sss) g)]))) pd rl (addP L4 g) ts6 := by
            refine ⟨fun b o h => by rw [upd_ne (fun z => by rw [z, D6.new e (by simp)] at h; cases h)]; exact B6.same b o h, by rw [upd_ne (Ne.symm esep.1)]; exact B6.dict, by rw [upd_ne (Ne.symm esep.2)]; exact B6.list, B6.len, fun j' u' g' h1 h2 => ?_, B6.n1, B6.n2, B6.ne⟩
            have := B6.tup j' u' g' h1 h2
            rw [upd_ne (fun z => by rw [z, he6] at this; cases this)]; exact this
          exact ⟨ts6, _, _, B7, hti6, D7, rfl⟩
        · obtain ⟨ts4, k9, k10, B4, hti4, D4, rfl⟩ := pp
          have ej : (↑row0.length : Int).toNat = (ahead rss sss p).length := by omega
          rw [ej] at B4 D4
          rw [List.take_length] at B4 D4
          rw [← enx] at B4
          rw [← ewx] at D4
          exact ⟨ts4, _, _, _, _, B4, D4, rfl⟩
      · have hc : (runP rss sss i).length ≤ i := by simp at hc; omega
        have ef := finP_of W1 W2 r1 r2 hc
        have enx : runP rss sss (i + 1) = runP rss sss i := runP_stop hc 1
        have ewx : (mixW rss sss).take (i + 1) = (mixW rss sss).take i := by
          rw [ef] at hc
          rw [List.take_of_length_le (by omega), List.take_of_length_le (by omega)]
        repeat walk_at "sx"
        exact ⟨ts, ds, _, _, _, by rw [enx]; exact B, by rw [ewx]; exact D, rfl⟩
    · obtain ⟨ts, ds, k8, k9, k10, B, D, rfl⟩ := pp
      clear B1 D0
      have eN : ((rss.length * sss.length : Nat) : Int).toNat = rss.length * sss.length := by omega
      rw [eN] at B D
      rw [List.take_of_length_le (by omega)] at D
      replace B : NP H H1 pd rl (finP rss sss) ts := B
      have hin : ∀ p ∈ finP rss sss, InP rss sss p := runP_in W1 W2 r1 r2 _
      have eL : mixL rss sss ls ls2 tb = (finP rss sss).map (lampP ls ls2 tb) := rfl
      repeat walk_at "sx"
      refine ⟨rl, rfl, ⟨_, SqL.of B.list⟩, ?_⟩
      refine comp_list (xs := ts.map V.ref) (fun acc j ys H' => H' = upd H1 acc (.lst ys) ∧ ys = (((finP rss sss).take j).map (lampP ls ls2 tb)).map V.bl) (fun acc hacc => ⟨rfl, rfl⟩) (fun acc j ys H' hacc _ pp => by rw [pp.1]; exact SqL.of (by rw [upd_ne (ne_of_none B.list hacc)]; exact B.list)) (fun acc j x ys H2 hacc hx pp => ?_) (fun acc ys H2 hacc pp => ?_)
      · obtain ⟨rfl, rfl⟩ := pp
        have hx0 := ref_map_inv hx
        clear hx
        obtain ⟨u, rfl, hu⟩ := hx0
        have hjF : j < (finP rss sss).length := by rw [← B.len]; exact (List.getElem?_eq_some_iff.mp hu).1
        obtain ⟨p, hp⟩ : ∃ p, (finP rss sss)[j]? = some p := ⟨_, List.getElem?_eq_getElem hjF⟩
        have k2 : ∀ b o, H1 b = some o → upd H1 acc (.lst ((((finP rss sss).take j).map (lampP ls ls2 tb)).map V.bl)) b = some o := fun b o e => by rw [upd_ne (ne_of_none e hacc)]; exact e
        have hu1 := k2 _ _ (B.tup j u p hu hp)
        obtain ⟨⟨x0, x1⟩, y0, y1⟩ := hin p (List.mem_of_getElem? hp)
        have hxl : p.1.toNat < ls.length := by rw [hll]; omega
        have hyl : p.2.toNat < ls2.length := by rw [hll2]; omega
        have hal2 := k2 _ _ (B.same _ _ hal)
        have hol2 := k2 _ _ (B.same _ _ hol)
        have hta2 := k2 _ _ (B.same _ _ hta)
        repeat walk_at "sx"
        refine ⟨Wk.set rfl, ?_⟩
        repeat walk_at "sx"
        refine ⟨u, _, 0, _, rfl, rfl, SqT.of hu1, atI_nat (j := 0) rfl, ?_⟩
        refine r_ixL (SqL.of hal2) (atI_get' x0 (bl_map_get (List.getElem?_eq_getElem hxl))) ?_
        repeat walk_at "sx"
        refine .inr ⟨_, rfl, ?_⟩
        refine ⟨_, _, rfl, rfl, .inl ⟨by omega, by omega⟩, ?_⟩
        repeat walk_at "sx"
        refine ⟨u, _, 1, _, rfl, rfl, SqT.of hu1, atI_nat (j := 1) rfl, ?_⟩
        refine r_ixL (SqL.of hol2) (atI_get' y0 (bl_map_get (List.getElem?_eq_getElem hyl))) ?_
        repeat walk_at "sx"
        refine .inr ⟨_, rfl, ?_⟩
        refine ⟨_, _, rfl, rfl, ?_⟩
        have hix : atI (tb.map V.bl) (2 * (if ls[p.1.toNat] = true then 1 else 0) + (if ls2[p.2.toNat] = true then 1 else 0)) = some (.bl (lampP ls ls2 tb p)) := by
          have e1 : lampP ls ls2 tb p = tbl tb ls[p.1.toNat] ls2[p.2.toNat] := by
            unfold lampP
            rw [List.getD_eq_getElem?_getD, List.getD_eq_getElem?_getD, List.getElem?_eq_getElem hxl, List.getElem?_eq_getElem hyl]; rfl
          rw [e1]
          have at' : ∀ j, j < 4 → atI (tb.map V.bl) (j : Nat) = some (.bl (tb.getD j false)) := fun j hj => atI_nat (j := j) (by rw [List.getElem?_map, List.getD_eq_getElem?_getD, List.getElem?_eq_getElem (by omega)]; rfl)
          unfold tbl
          cases ls[p.1.toNat] <;> cases ls2[p.2.toNat]
          · exact at' 0 (by omega)
          · exact at' 1 (by omega)
          · exact at' 2 (by omega)
          · exact at' 3 (by omega)
        refine r_ixL (SqL.of hta2) hix ?_
        refine ⟨upd_same, small1000 (by simp; omega), ?_, ?_⟩
        · rw [upd_upd]
        · rw [take_snocA hp, List.map_append, List.map_append]; rfl
      · obtain ⟨rfl, rfl⟩ := pp
        rw [List.length_map, B.len, List.take_length, ← eL]
        have s2 : Same H1 (upd H1 acc (.lst ((mixL rss sss ls ls2 tb).map V.bl))) := Same.upd_new hacc
        have a2 : (upd H1 acc (.lst ((mixL rss sss ls ls2 tb).map V.bl))) acc = some (.lst ((mixL rss sss ls ls2 tb).map V.bl)) := upd_same
        generalize upd H1 acc (.lst ((mixL rss sss ls ls2 tb).map V.bl)) = H2 at s2 a2 ⊢
        repeat walk_at "sx"
        refine ⟨by show 2 ≤ sizeLine; decide, fun pr hpr => ?_⟩
        have s3 : Same H2 (upd H2 pr (.lst [.ref dl, .ref acc])) := Same.upd_new hpr
        exact q _ pr dl ds acc (B.same.trans (s2.trans s3)) upd_same (D.mat.same (s2.trans s3)) (s3 _ _ a2)
/-! #### l_name -/
theorem sc_l_name : FnScope ["one", "other", "table", "name", "under", "e"] ["one", "other", "table"] (defScope s_l_name) := ⟨rfl, rfl, rfl, by decide +kernel, rfl, by decide +kernel, by decide +kernel⟩
theorem b_l_name (T : Txt K mg t) : Binds K t.fd_l_name ["one", "other", "table"] [] := T.F_l_name.binds fun _ _ _ _ _ _ us hl => by obtain ⟨_, _, _, rfl⟩ := len_3 hl; rfl
def sp_l_name (K : PySem.W.Frag) (t : Adr) : Sp := fun vs H Q _ => ∃ (p1 p2 ta : Addr) (d d2 : Int) (aw : Addr) (rs : List Addr) (rss : List (List Int)) (al : Addr) (ls : List Bool) (aw2 : Addr) (rs2 : List Addr) (sss : List (List Int)) (al2 : Addr) (ls2 tb : List Bool), vs = [.ref p1, .ref p2, .ref ta] ∧ HouseAt t.C_House H p1 d aw rs rss al ls ∧ HouseAt t.C_House H p2 d2 aw2 rs2 sss al2 ls2 ∧ Valid d rss ls ∧ Valid d2 sss ls2 ∧ H ta = some (.lst (tb.map V.bl)) ∧ tb.length = 4 ∧ (d ≠ d2 ∨ 400 < (finP rss sss).length) ∧
  (d ≠ d2 → ∀ H', Same H H' → Q (.str "doors") H') ∧ (d = d2 → ∀ H', Same H H' → Q (.str "great") H')
theorem ok_l_name (T : Txt K mg t) : FnOk P w K mg base CX0 6 t.f_l_name t.fd_l_name ["one", "other", "table"] (sp_l_name K t) := by
  refine T.F_l_name.ok sc_l_name (fun vs H Q E h => ?_) (fun cdv A outer s H vs Q E hr h => ?_)
  · obtain ⟨p1, p2, ta, d, d2, aw, rs, rss, al, ls, aw2, rs2, sss, al2, ls2, tb, rfl, _⟩ := h
    rfl
  · obtain ⟨p1, p2, ta, d, d2, aw, rs, rss, al, ls, aw2, rs2, sss, al2, ls2, tb, rfl, hh1, hh2, V1, V2, hT, h4, hor, q1, q2⟩ := h
    refine ⟨_, pss_cons (ps_set (i := 3) sc_l_name.nd rfl (Or.inl rfl) (pe_str))
 (pss_cons (ps_set (i := 4) sc_l_name.nd rfl (Or.inl rfl) (pe_bl))
 (pss_cons (ps_tryN (i := 5) rfl rfl sc_l_name.nd rfl rfl (fun _ _ _ xp => pss_one (ps_expr (pe_call (ok_mixed T) (hr.mono (by decide)) rfl T.mg_mixed T.F_mixed.kp (b_mixed T) .nil xp.pass (pa_cons (pv 0) (pa_cons (pv 1) (pa_cons (pv 2) (pa_nil)))))))
 (PHs.cons rfl T.mg_OtherDoors (by decide) (fun _ _ => pss_cons (ps_set (i := 3) sc_l_name.nd rfl (Or.inl rfl) (pe_str))
 (pss_one (ps_set (i := 4) sc_l_name.nd rfl (Or.inl rfl) (pe_and (pe_callH (ok_l_stands_under T) (roomH hr (by decide)) rfl T.mg_l_stands_under T.F_l_stands_under.kp (b_l_stands_under T) .nil pass0 (pa_cons (pv 5) (pa_nil))) (pe_one (pe_not (pe_callB (call_isinstXT K) rfl T.m_isinstance boot_isinstance (pa_cons (pv 5) (pa_cons (pe_tup (pa_cons (pe_glob (v := .ref _) rfl T.mg_TooGreat rfl) (pa_cons (pe_glob (v := .ref _) rfl T.mg_BadHouse rfl) (pa_nil)))) (pa_nil))))))))))
 (PHs.cons rfl T.mg_TooGreat (by decide) (fun _ _ => pss_cons (ps_set (i := 3) sc_l_name.nd rfl (Or.inl rfl) (pe_str))
 (pss_one (ps_set (i := 4) sc_l_name.nd rfl (Or.inl rfl) (pe_and (pe_callH (ok_l_stands_under T) (roomH hr (by decide)) rfl T.mg_l_stands_under T.F_l_stands_under.kp (b_l_stands_under T) .nil pass0 (pa_cons (pv 5) (pa_nil))) (pe_one (pe_not (pe_callB (call_isinstXT K) rfl T.m_isinstance boot_isinstance (pa_cons (pv 5) (pa_cons (pe_tup (pa_cons (pe_glob (v := .ref _) rfl T.mg_OtherDoors rfl) (pa_cons (pe_glob (v := .ref _) rfl T.mg_BadHouse rfl) (pa_nil)))) (pa_nil))))))))))
 (PHs.nil))))
 (pss_cons (ps_if (pt_not (pt_val (pv 4)))
 (pss_one (ps_ret (pe_str)))
 (pss_nil))
 (pss_one (ps_ret (pv 3)))))), ?_⟩
    repeat walk_at "sx"
    refine ⟨p1, p2, ta, d, d2, aw, rs, rss, al, ls, aw2, rs2, sss, al2, ls2, tb, rfl, hh1, hh2, V1, V2, hT, h4, fun hne => ⟨t.C_OtherDoors, rfl, fun ea hea => ?_⟩, fun he hbig H0 s0 => ⟨t.C_TooGreat, rfl, fun ea hea => ?_⟩, fun he hsm => ?_⟩
    · have hs0 : Same H (upd H ea (.ext (ExcAt ea t.C_OtherDoors))) := Same.upd_new hea
      have he1 : (upd H ea (.ext (ExcAt ea t.C_OtherDoors))) ea = some (.ext (ExcAt ea t.C_OtherDoors)) := upd_same
      generalize upd H ea (.ext (ExcAt ea t.C_OtherDoors)) = H1 at hs0 he1 ⊢
      refine .inl ⟨exm_of T.mb_OtherDoors T.cl_OtherDoors T.ty_OtherDoors T.ms_OtherDoors, ?_⟩
      repeat walk_at "sx"
      refine ⟨ea, _, _, rfl, he1, T.ex_OtherDoors, kit_sub (Ne.symm (ne_mro T.ms_HouseError T.mr_HouseError_OtherDoors)) T.cl_HouseError T.ty_HouseError T.mr_OtherDoors_HouseError, kit_val T.mv_OtherDoors, ?_⟩
      repeat walk_at "sx"
      refine r_iteP rfl ?_
      repeat walk_at "sx"
      refine ⟨by show 2 ≤ sizeLine; decide, fun tp htp => ?_⟩
      have hs2 : Same H1 (upd H1 tp (.tup [.ref t.C_TooGreat, .ref t.C_BadHouse])) := Same.upd_new htp
      refine ⟨ea, _, _, tp, [t.C_TooGreat, t.C_BadHouse], false, rfl, hs2 _ _ he1, T.ex_OtherDoors, upd_same, ?_, ?_⟩
      · have n1 := kit_sub (ne_mro T.ms_OtherDoors T.mr_OtherDoors_TooGreat) T.cl_TooGreat T.ty_TooGreat T.mr_OtherDoors_TooGreat
        have n2 := kit_sub (ne_mro T.ms_OtherDoors T.mr_OtherDoors_BadHouse) T.cl_BadHouse T.ty_BadHouse T.mr_OtherDoors_BadHouse
        show PySem.W.kitAny K _ [.ref _, .ref _] = _
        simp only [PySem.W.kitAny, n1, n2]
      generalize upd H1 tp (.tup [.ref t.C_TooGreat, .ref t.C_BadHouse]) = H2 at hs2 ⊢
      repeat walk_at "sx"
      refine r_iteN rfl ?_
      repeat walk_at "sx"
      exact q1 hne _ (hs0.trans hs2)
    · have hs0 : Same H (upd H0 ea (.ext (ExcAt ea t.C_TooGreat))) := s0.trans (Same.upd_new hea)
      have he1 : (upd H0 ea (.ext (ExcAt ea t.C_TooGreat))) ea = some (.ext (ExcAt ea t.C_TooGreat)) := upd_same
      generalize upd H0 ea (.ext (ExcAt ea t.C_TooGreat)) = H1 at hs0 he1 ⊢
      refine .inr ⟨exm_of T.mb_OtherDoors T.cl_OtherDoors T.ty_OtherDoors T.mr_TooGreat_OtherDoors, .inl ⟨exm_of T.mb_TooGreat T.cl_TooGreat T.ty_TooGreat T.ms_TooGreat, ?_⟩⟩
      repeat walk_at "sx"
      refine ⟨ea, _, _, rfl, he1, T.ex_TooGreat, kit_sub (Ne.symm (ne_mro T.ms_HouseError T.mr_HouseError_TooGreat)) T.cl_HouseError T.ty_HouseError T.mr_TooGreat_HouseError, kit_val T.mv_TooGreat, ?_⟩
      repeat walk_at "sx"
      refine r_iteP rfl ?_
      repeat walk_at "sx"
      refine ⟨by show 2 ≤ sizeLine; decide, fun tp htp => ?_⟩
      have hs2 : Same H1 (upd H1 tp (.tup [.ref t.C_OtherDoors, .ref t.C_BadHouse])) := Same.upd_new htp
      refine ⟨ea, _, _, tp, [t.C_OtherDoors, t.C_BadHouse], false, rfl, hs2 _ _ he1, T.ex_TooGreat, upd_same, ?_, ?_⟩
      · have n1 := kit_sub (ne_mro T.ms_TooGreat T.mr_TooGreat_OtherDoors) T.cl_OtherDoors T.ty_OtherDoors T.mr_TooGreat_OtherDoors
        have n2 := kit_sub (ne_mro T.ms_TooGreat T.mr_TooGreat_BadHouse) T.cl_BadHouse T.ty_BadHouse T.mr_TooGreat_BadHouse
        show PySem.W.kitAny K _ [.ref _, .ref _] = _
        simp only [PySem.W.kitAny, n1, n2]
      generalize upd H1 tp (.tup [.ref t.C_OtherDoors, .ref t.C_BadHouse]) = H2 at hs2 ⊢
      repeat walk_at "sx"
      refine r_iteN rfl ?_
      repeat walk_at "sx"
      exact q2 he _ (hs0.trans hs2)
    · exfalso
      rcases hor with h | h
      · exact h he
      · omega
/-! #### law -/
theorem sc_law : FnScope ["script", "doors", "ways", "others", "rooms", "some", "lamps", "lights", "table", "one", "other", "due", "handed", "found"] ["script"] (defScope s_law) := ⟨rfl, rfl, rfl, by decide +kernel, rfl, by decide +kernel, by decide +kernel⟩
def sp_law (K : PySem.W.Frag) : Sp := fun vs H Q _ => ∃ (a : Addr) (ns : List Int), vs = [.ref a] ∧ SqL K H a (ns.map V.int) ∧ ns.length ≤ 63 ∧ ∀ H', Q (.bl true) H'
theorem swaps_lst {es : List PySem.Expr} {p : PySem.Pos} {tg : Option PySem.Expr} {l : Nat} {env : PySem.Env} : PySem.swapsWith (.List es p) tg l env = pure false := rfl
theorem pe_two {X : Cx} {a b : Int} {u v r : PySem.Pos} : PE X (.List [.Constant (.int a) 0 u, .Constant (.int b) 0 v] r) (tLst (tCons (tC (.int a)) (tCons (tC (.int b)) tNil))) := pe_lst (pa_cons pe_int (pa_cons pe_int pa_nil))
theorem star_all {X : Cx} {xs : List PySem.Expr} {p : PySem.Pos} : ∀ es, PySem.starEach (.List xs p :: es) X.env = (false, PySem.eval (.List xs p) X.env) :: PySem.starEach es X.env := fun _ => star_lst
theorem pe_nine {X : Cx} {p : PySem.Pos} {e0 e1 e2 e3 e4 e5 e6 e7 e8 : PySem.Expr} {t0 t1 t2 t3 t4 t5 t6 t7 t8 : TE} (h0 : PE X e0 t0) (h1 : PE X e1 t1) (h2 : PE X e2 t2) (h3 : PE X e3 t3) (h4 : PE X e4 t4) (h5 : PE X e5 t5) (h6 : PE X e6 t6) (h7 : PE X e7 t7) (h8 : PE X e8 t8) (s0 : ∀ es, PySem.starEach (e0 :: es) X.env = (false, PySem.eval e0 X.env) :: PySem.starEach es X.env) (s1 : ∀ es, PySem.starEach (e1 :: es) X.env = (false, PySem.eval e1 X.env) :: PySem.starEach es X.env) (s2 : ∀ es, PySem.starEach (e2 :: es) X.env = (false, PySem.eval e2 X.env) :: PySem.starEach es X.env) (s3 : ∀ es, PySem.starEach (e3 :: es) X.env = (false, PySem.eval e3 X.env) :: PySem.starEach es X.env) (s4 : ∀ es, PySem.starEach (e4 :: es) X.env = (false, PySem.eval e4 X.env) :: PySem.starEach es X.env) (s5 : ∀ es, PySem.starEach (e5 :: es) X.env = (false, PySem.eval e5 X.env) :: PySem.starEach es X.env) (s6 : ∀ es, PySem.starEach (e6 :: es) X.env = (false, PySem.eval e6 X.env) :: PySem.starEach es X.env) (s7 : ∀ es, PySem.starEach (e7 :: es) X.env = (false, PySem.eval e7 X.env) :: PySem.starEach es X.env) (s8 : ∀ es, PySem.starEach (e8 :: es) X.env = (false, PySem.eval e8 X.env) :: PySem.starEach es X.env) : PE X (.List [e0, e1, e2, e3, e4, e5, e6, e7, e8] p) (tLst (tCons t0 (tCons t1 (tCons t2 (tCons t3 (tCons t4 (tCons t5 (tCons t6 (tCons t7 (tCons t8 (tNil))))))))))) := pe_lst (pa_cons h0 (pa_cons h1 (pa_cons h2 (pa_cons h3 (pa_cons h4 (pa_cons h5 (pa_cons h6 (pa_cons h7 (pa_cons h8 (pa_nil) (s8 _)) (s7 _)) (s6 _)) (s5 _)) (s4 _)) (s3 _)) (s2 _)) (s1 _)) (s0 _))
theorem pe_pairs9 {X : Cx} {p2 : PySem.Pos} {a0 b0 a1 b1 a2 b2 a3 b3 a4 b4 a5 b5 a6 b6 a7 b7 a8 b8 : Int} {u0 v0 r0 u1 v1 r1 u2 v2 r2 u3 v3 r3 u4 v4 r4 u5 v5 r5 u6 v6 r6 u7 v7 r7 u8 v8 r8 : PySem.Pos} : PE X (.List [.List [.Constant (.int a0) 0 u0, .Constant (.int b0) 0 v0] r0, .List [.Constant (.int a1) 0 u1, .Constant (.int b1) 0 v1] r1, .List [.Constant (.int a2) 0 u2, .Constant (.int b2) 0 v2] r2, .List [.Constant (.int a3) 0 u3, .Constant (.int b3) 0 v3] r3, .List [.Constant (.int a4) 0 u4, .Constant (.int b4) 0 v4] r4, .List [.Constant (.int a5) 0 u5, .Constant (.int b5) 0 v5] r5, .List [.Constant (.int a6) 0 u6, .Constant (.int b6) 0 v6] r6, .List [.Constant (.int a7) 0 u7, .Constant (.int b7) 0 v7] r7, .List [.Constant (.int a8) 0 u8, .Constant (.int b8) 0 v8] r8] p2) (tLst (tCons (tLst (tCons (tC (.int a0)) (tCons (tC (.int b0)) tNil))) (tCons (tLst (tCons (tC (.int a1)) (tCons (tC (.int b1)) tNil))) (tCons (tLst (tCons (tC (.int a2)) (tCons (tC (.int b2)) tNil))) (tCons (tLst (tCons (tC (.int a3)) (tCons (tC (.int b3)) tNil))) (tCons (tLst (tCons (tC (.int a4)) (tCons (tC (.int b4)) tNil))) (tCons (tLst (tCons (tC (.int a5)) (tCons (tC (.int b5)) tNil))) (tCons (tLst (tCons (tC (.int a6)) (tCons (tC (.int b6)) tNil))) (tCons (tLst (tCons (tC (.int a7)) (tCons (tC (.int b7)) tNil))) (tCons (tLst (tCons (tC (.int a8)) (tCons (tC (.int b8)) tNil))) (tNil))))))))))) := @pe_nine X p2 _ _ _ _ _ _ _ _ _ _ _ _ _ _ _ _ _ _ (@pe_two X a0 b0 u0 v0 r0) (@pe_two X a1 b1 u1 v1 r1) (@pe_two X a2 b2 u2 v2 r2) (@pe_two X a3 b3 u3 v3 r3) (@pe_two X a4 b4 u4 v4 r4) (@pe_two X a5 b5 u5 v5 r5) (@pe_two X a6 b6 u6 v6 r6) (@pe_two X a7 b7 u7 v7 r7) (@pe_two X a8 b8 u8 v8 r8) (@star_all X _ _) (@star_all X _ _) (@star_all X _ _) (@star_all X _ _) (@star_all X _ _) (@star_all X _ _) (@star_all X _ _) (@star_all X _ _) (@star_all X _ _)
theorem _root_.L2.pi_tupK {X : Cx} (K : PySem.W.Frag) {tg l : Expr} {tl : TE} (hl : PE X l tl) (hK : X.K = K := by rfl) : PI X tg l (iTup K tl) := by subst hK; exact pi_tup hl
theorem r_itup {K : PySem.W.Frag} {tl : TE} {σ : L2.St} {H : Hp} {R : It → Hp → Prop} (h : tl σ H fun x H1 => ∃ a, x = .ref a ∧ (∃ xs, SqT K H1 a xs) ∧ R (Itt K a) H1) : iTup K tl σ H R := h
theorem comp_tup {K : PySem.W.Frag} {a : Addr} {xs : List V} {g : TG} {te : TE} {caps : List (Option Nat)} {σ : L2.St} {H : Hp} {Q : VK} (Pv : Addr → Nat → List V → Hp → Prop) (h0 : ∀ acc, H acc = none → Pv acc 0 [] (upd H acc (.lst [])))
    (hl : ∀ acc i ys H', H acc = none → i ≤ xs.length → Pv acc i ys H' → SqT K H' a xs)
    (hs : ∀ acc i x ys H', H acc = none → xs[i]? = some x → Pv acc i ys H' → g x (capσ caps σ) H' fun σ2 H2 => Wk (capσ caps σ) σ2 ∧ te σ2 H2 fun y H3 => H3 acc = some (.lst ys) ∧ ys.length < sizeLine ∧ Pv acc (i + 1) (ys ++ [y]) (upd H3 acc (.lst (ys ++ [y]))))
    (hd : ∀ acc ys H', H acc = none → Pv acc xs.length ys H' → Q (.ref acc) H') : CompR caps g te σ Q (Itt K a) H := by
  intro acc hacc
  refine ⟨fun i m ys H => m = xs.length - i ∧ i ≤ xs.length ∧ Pv acc i ys H, ⟨xs.length, by simp, Nat.zero_le _, h0 acc hacc⟩, ?_⟩
  rintro i m ys H' ⟨rfl, hi, p⟩
  have q := hl acc i ys H' hacc hi p
  by_cases hlt : i < xs.length
  · refine .inr ⟨⟨xs, xs[i], q, by simp [hlt]⟩, Pv acc (i + 1), fun ys' H' p' => ⟨xs.length - (i + 1), by omega, rfl, hlt, p'⟩, fun x H'' y => ?_⟩
    obtain ⟨e, y⟩ := y
    subst e
    exact hs acc i x ys _ hacc (y xs q) p
  · have e : i = xs.length := by omega
    subst e
    exact .inl ⟨⟨xs, q, Nat.le_refl _⟩, hd acc ys H' hacc p⟩
def bits : List Int := [1, 2, 4, 8]
theorem ways_map {d r : Int} (f : Nat → List Int) (n : Nat) (hn : n = r.toNat) (hr : 0 < r) (h : ∀ k, k < n → ((f k).length : Int) = d ∧ ∀ x ∈ f k, 0 ≤ x ∧ x < r) : Ways d ((List.range n).map f) := by
  refine ⟨fun row hrow => ?_⟩
  obtain ⟨k, hk, rfl⟩ := List.mem_map.mp hrow
  have hk : k < n := List.mem_range.mp hk
  obtain ⟨h1, h2⟩ := h k hk
  refine ⟨h1, fun x hx => ?_⟩
  have := h2 x hx
  rw [List.length_map, List.length_range]
  omega
/-- two houses' ways stand in the names -/
structure Y10 (H H' : Hp) (d : Int) (aw ao : Addr) (rs rs2 : List Addr) (rss sss : List (List Int)) : Prop where
  same : Same H H'
  M1 : Mat H' aw rs rss
  M2 : Mat H' ao rs2 sss
  W1 : Ways d rss
  W2 : Ways d sss
  r1 : 1 ≤ rss.length
  r2 : 1 ≤ sss.length
  r4 : rss.length ≤ 400
  s4 : sss.length ≤ 400
  sz : rss.length * sss.length ≤ 900
  d1 : 1 ≤ d
  d5 : d ≤ 5
theorem Y10.tick {H H' H2 : Hp} {d : Int} {aw ao : Addr} {rs rs2 : List Addr} {rss sss : List (List Int)} (Y : Y10 H H' d aw ao rs rs2 rss sss) (s : Same H' H2) : Y10 H H2 d aw ao rs rs2 rss sss :=
  ⟨Y.same.trans s, Y.M1.same s, Y.M2.same s, Y.W1, Y.W2, Y.r1, Y.r2, Y.r4, Y.s4, Y.sz, Y.d1, Y.d5⟩
theorem ways_more {d : Int} {sss : List (List Int)} (W : Ways d sss) (h : 0 < sss.length) : Ways (d + 1) (sss.map fun r => r ++ [0]) := by
  refine ⟨fun row hrow => ?_⟩
  obtain ⟨r, hr, rfl⟩ := List.mem_map.mp hrow
  obtain ⟨h1, h2⟩ := W.row r hr
  rw [List.length_append, List.length_singleton, List.length_map]
  refine ⟨by omega, fun x hx => ?_⟩
  rcases List.mem_append.mp hx with hx | hx
  · exact h2 x hx
  · rw [List.mem_singleton.mp hx]; omega
set_option maxHeartbeats 0 in
theorem ok_law (T : Txt K mg t) : FnOk P w K mg base CX0 8 t.f_law t.fd_law ["script"] (sp_law K) := by
  refine T.F_law.ok sc_law (fun vs H Q E h => ?_) (fun cdv A outer s H vs Q E hr h => ?_)
  · obtain ⟨a, ns, rfl, _⟩ := h
    rfl
  · obtain ⟨a, ns, rfl, hS, hlen, q⟩ := h
    refine ⟨_, @pss_cons _ _ _ _ _ (ps_set (i := 1) sc_law.nd rfl (Or.inl rfl) (pe_op op_add (pe_int) (pe_op op_mod (pe_call (ok_l_cell_at T) (hr.mono (by decide)) rfl T.mg_l_cell_at T.F_l_cell_at.kp (b_l_cell_at T) .nil pass0 (pa_cons (pv 0) (pa_cons (pe_int) (pa_nil)))) (pe_int))))
 (@pss_cons _ _ _ _ _ (ps_set (i := 2) sc_law.nd rfl (Or.inl rfl) (pe_call (ok_l_ways_by T) (hr.mono (by decide)) rfl T.mg_l_ways_by T.F_l_ways_by.kp (b_l_ways_by T) .nil pass0 (pa_cons (pe_call (ok_l_cell_at T) (hr.mono (by decide)) rfl T.mg_l_cell_at T.F_l_cell_at.kp (b_l_cell_at T) .nil pass0 (pa_cons (pv 0) (pa_cons (pe_int) (pa_nil)))) (pa_cons (pv 1) (pa_cons (pe_op op_add (pe_int) (pe_op op_mod (pe_call (ok_l_cell_at T) (hr.mono (by decide)) rfl T.mg_l_cell_at T.F_l_cell_at.kp (b_l_cell_at T) .nil pass0 (pa_cons (pv 0) (pa_cons (pe_int) (pa_nil)))) (pe_int))) (pa_nil))))))
 (@pss_cons _ _ _ _ _ (ps_set (i := 3) sc_law.nd rfl (Or.inl rfl) (pe_call (ok_l_ways_by T) (hr.mono (by decide)) rfl T.mg_l_ways_by T.F_l_ways_by.kp (b_l_ways_by T) .nil pass0 (pa_cons (pe_call (ok_l_cell_at T) (hr.mono (by decide)) rfl T.mg_l_cell_at T.F_l_cell_at.kp (b_l_cell_at T) .nil pass0 (pa_cons (pv 0) (pa_cons (pe_int) (pa_nil)))) (pa_cons (pv 1) (pa_cons (pe_op op_add (pe_int) (pe_op op_mod (pe_call (ok_l_cell_at T) (hr.mono (by decide)) rfl T.mg_l_cell_at T.F_l_cell_at.kp (b_l_cell_at T) .nil pass0 (pa_cons (pv 0) (pa_cons (pe_int) (pa_nil)))) (pe_int))) (pa_nil))))))
 (@pss_cons _ _ _ _ _ (ps_join (ps_if (pt_cmpR op_eq (pe_op op_mod (pe_op op_fdiv (pe_call (ok_l_cell_at T) (hr.mono (by decide)) rfl T.mg_l_cell_at T.F_l_cell_at.kp (b_l_cell_at T) .nil pass0 (pa_cons (pv 0) (pa_cons (pe_int) (pa_nil)))) (pe_int)) (pe_int)) (pe_int) (nomark _))
 (@pss_cons _ _ _ _ _ (ps_set (i := 1) sc_law.nd rfl (Or.inl rfl) (pe_int))
 (@pss_cons _ _ _ _ _ (ps_set (i := 4) sc_law.nd rfl (Or.inr rfl) (pe_lst (pa_cons (pe_op op_add (pe_int) (pe_op op_mod (pe_call (ok_l_cell_at T) (hr.mono (by decide)) rfl T.mg_l_cell_at T.F_l_cell_at.kp (b_l_cell_at T) .nil pass0 (pa_cons (pv 0) (pa_cons (pe_int) (pa_nil)))) (pe_int))) (pa_cons (pe_op op_add (pe_int) (pe_op op_mod (pe_call (ok_l_cell_at T) (hr.mono (by decide)) rfl T.mg_l_cell_at T.F_l_cell_at.kp (b_l_cell_at T) .nil pass0 (pa_cons (pv 0) (pa_cons (pe_int) (pa_nil)))) (pe_int))) (pa_nil)))))
 (@pss_cons _ _ _ _ _ (ps_join (ps_if (pt_cmpR op_eq (pe_op op_mod (pe_op op_fdiv (pe_call (ok_l_cell_at T) (hr.mono (by decide)) rfl T.mg_l_cell_at T.F_l_cell_at.kp (b_l_cell_at T) .nil pass0 (pa_cons (pv 0) (pa_cons (pe_int) (pa_nil)))) (pe_int)) (pe_int)) (pe_int) (nomark _))
 (@pss_cons _ _ _ _ _ (@ps_set _ _ 5 _ _ _ _ sc_law.nd rfl (Or.inl rfl) (@pe_pairs9 _ _ _ _ _ _ _ _ _ _ _ _ _ _ _ _ _ _ _ _ _ _ _ _ _ _ _ _ _ _ _ _ _ _ _ _ _ _ _ _ _ _ _ _ _ _ _) (@swaps_lst _ _ _ _ _) (Or.inr rfl))
 (@pss_one _ _ _ (ps_set (i := 4) sc_law.nd rfl (Or.inr rfl) (pe_callTy (call_list_ofK K) rfl T.m_list boot_list (pa_cons (pe_ix (ix_listK K) (pv 5) (pe_op op_mod (pe_call (ok_l_cell_at T) (hr.mono (by decide)) rfl T.mg_l_cell_at T.F_l_cell_at.kp (b_l_cell_at T) .nil pass0 (pa_cons (pv 0) (pa_cons (pe_int) (pa_nil)))) (pe_int)) (fun _ _ => rfl)) (pa_nil))))))
 (pss_nil)))
 (@pss_cons _ _ _ _ _ (ps_setC (i := 2) (N := ["script", "doors", "ways", "others", "rooms", "some", "lamps", "lights", "table", "one", "other", "due", "handed", "found"]) (sc0 := (defScope s_law)) (N' := ["k", "rooms"]) (caps := [none, some 4]) (by exact ⟨rfl, by decide +kernel, by decide +kernel, by decide +kernel, rfl, rfl, by decide +kernel⟩) rfl sc_law.nd rfl (Or.inl rfl) (pi_range1 rfl T.m_range (pa_cons (pe_ix (ix_listK K) (pv 4) (pe_int) (fun _ _ => rfl)) (pa_nil))) (fun _ _ _ _ _ _ => pg_name (i := 0) (show List.Nodup (["k", "rooms"] : List Str) from by decide +kernel) rfl (Or.inl rfl)) (fun _ _ _ _ _ _ => pe_lst (pa_cons (pe_op op_mod (pe_op op_add (pv 0) (pe_int)) (pe_ix (ix_listK K) (pv 1) (pe_int) (fun _ _ => rfl))) (pa_nil))))
 (@pss_one _ _ _ (ps_setC (i := 3) (N := ["script", "doors", "ways", "others", "rooms", "some", "lamps", "lights", "table", "one", "other", "due", "handed", "found"]) (sc0 := (defScope s_law)) (N' := ["k", "rooms"]) (caps := [none, some 4]) (by exact ⟨rfl, by decide +kernel, by decide +kernel, by decide +kernel, rfl, rfl, by decide +kernel⟩) rfl sc_law.nd rfl (Or.inl rfl) (pi_range1 rfl T.m_range (pa_cons (pe_ix (ix_listK K) (pv 4) (pe_int) (fun _ _ => rfl)) (pa_nil))) (fun _ _ _ _ _ _ => pg_name (i := 0) (show List.Nodup (["k", "rooms"] : List Str) from by decide +kernel) rfl (Or.inl rfl)) (fun _ _ _ _ _ _ => pe_lst (pa_cons (pe_op op_mod (pe_op op_add (pv 0) (pe_int)) (pe_ix (ix_listK K) (pv 1) (pe_int) (fun _ _ => rfl))) (pa_nil)))))))))
 (pss_nil)))
 (@pss_cons _ _ _ _ _ (ps_set (i := 6) sc_law.nd rfl (Or.inl rfl) (pe_call (ok_l_lamps_by T) (hr.mono (by decide)) rfl T.mg_l_lamps_by T.F_l_lamps_by.kp (b_l_lamps_by T) .nil pass0 (pa_cons (pe_call (ok_l_cell_at T) (hr.mono (by decide)) rfl T.mg_l_cell_at T.F_l_cell_at.kp (b_l_cell_at T) .nil pass0 (pa_cons (pv 0) (pa_cons (pe_int) (pa_nil)))) (pa_cons (pe_callB (call_len_seqK K) rfl T.m_len PySem.boot_len (pa_cons (pv 2) (pa_nil))) (pa_nil)))))
 (@pss_cons _ _ _ _ _ (ps_set (i := 7) sc_law.nd rfl (Or.inl rfl) (pe_call (ok_l_lamps_by T) (hr.mono (by decide)) rfl T.mg_l_lamps_by T.F_l_lamps_by.kp (b_l_lamps_by T) .nil pass0 (pa_cons (pe_call (ok_l_cell_at T) (hr.mono (by decide)) rfl T.mg_l_cell_at T.F_l_cell_at.kp (b_l_cell_at T) .nil pass0 (pa_cons (pv 0) (pa_cons (pe_int) (pa_nil)))) (pa_cons (pe_callB (call_len_seqK K) rfl T.m_len PySem.boot_len (pa_cons (pv 3) (pa_nil))) (pa_nil)))))
 (@pss_cons _ _ _ _ _ (ps_setC (i := 8) (N := ["script", "doors", "ways", "others", "rooms", "some", "lamps", "lights", "table", "one", "other", "due", "handed", "found"]) (sc0 := (defScope s_law)) (N' := ["bit", "script"]) (caps := [none, some 0]) (by exact ⟨rfl, by decide +kernel, by decide +kernel, by decide +kernel, rfl, rfl, by decide +kernel⟩) rfl sc_law.nd rfl (Or.inl rfl) (pi_tupK K (pe_tup (pa_cons (pe_int) (pa_cons (pe_int) (pa_cons (pe_int) (pa_cons (pe_int) (pa_nil))))))) (fun _ _ _ _ _ _ => pg_name (i := 0) (show List.Nodup (["bit", "script"] : List Str) from by decide +kernel) rfl (Or.inl rfl)) (fun _ _ _ _ _ _ => pe_cmpR op_eq (pe_op op_mod (pe_op op_fdiv (pe_call (ok_l_cell_at T) (hr.mono (by decide)) rfl T.mg_l_cell_at T.F_l_cell_at.kp (b_l_cell_at T) .nil pass0 (pa_cons (pv 1) (pa_cons (pe_int) (pa_nil)))) (pv 0)) (pe_int)) (pe_int) (nomark _)))
 (@pss_cons _ _ _ _ _ (ps_set (i := 9) sc_law.nd rfl (Or.inl rfl) (pe_make T.mk_House (ok_House_init T) (hr.mono (by decide)) rfl T.mg_House (b_House_init T) .nil pass0 (pa_cons (pv 1) (pa_cons (pv 2) (pa_cons (pv 6) (pa_nil))))))
 (@pss_cons _ _ _ _ _ (ps_if (pt_cmpR op_eq (pe_op op_mod (pe_call (ok_l_cell_at T) (hr.mono (by decide)) rfl T.mg_l_cell_at T.F_l_cell_at.kp (b_l_cell_at T) .nil pass0 (pa_cons (pv 0) (pa_cons (pe_int) (pa_nil)))) (pe_int)) (pe_int) (nomark _))
 (@pss_cons _ _ _ _ _ (ps_set (i := 10) sc_law.nd rfl (Or.inl rfl) (pe_make T.mk_House (ok_House_init T) (hr.mono (by decide)) rfl T.mg_House (b_House_init T) .nil pass0 (pa_cons (pe_op op_add (pv 1) (pe_int)) (pa_cons (pe_comp (N := ["script", "doors", "ways", "others", "rooms", "some", "lamps", "lights", "table", "one", "other", "due", "handed", "found"]) (sc0 := (defScope s_law)) (N' := ["row"]) (caps := [none]) (by exact ⟨rfl, by decide +kernel, by decide +kernel, by decide +kernel, rfl, rfl, by decide +kernel⟩) rfl (pi_listK K (pv 3)) (fun _ _ _ _ _ _ => pg_name (i := 0) (show List.Nodup (["row"] : List Str) from by decide +kernel) rfl (Or.inl rfl)) (fun _ _ _ _ _ _ => pe_op op_cat (pv 0) (pe_lst (pa_cons (pe_int) (pa_nil))))) (pa_cons (pv 7) (pa_nil))))))
 (@pss_one _ _ _ (ps_ret (pe_and (pe_cmpR op_eq (pe_call (ok_l_name T) (hr.mono (by decide)) rfl T.mg_l_name T.F_l_name.kp (b_l_name T) .nil pass0 (pa_cons (pv 9) (pa_cons (pv 10) (pa_cons (pe_callTy (call_list_ofK K) rfl T.m_list boot_list (pa_cons (pv 8) (pa_nil))) (pa_nil))))) (pe_str) (nomark _)) (pe_one (pe_cmpR op_eq (pe_call (ok_l_name T) (hr.mono (by decide)) rfl T.mg_l_name T.F_l_name.kp (b_l_name T) .nil pass0 (pa_cons (pv 10) (pa_cons (pv 9) (pa_cons (pe_callTy (call_list_ofK K) rfl T.m_list boot_list (pa_cons (pv 8) (pa_nil))) (pa_nil))))) (pe_str) (nomark _)))))))
 (pss_nil))
 (@pss_cons _ _ _ _ _ (ps_set (i := 10) sc_law.nd rfl (Or.inl rfl) (pe_make T.mk_House (ok_House_init T) (hr.mono (by decide)) rfl T.mg_House (b_House_init T) .nil pass0 (pa_cons (pv 1) (pa_cons (pv 3) (pa_cons (pv 7) (pa_nil))))))
 (@pss_cons _ _ _ _ _ (ps_set (i := 11) sc_law.nd rfl (Or.inl rfl) (pe_call (ok_l_mixture T) (hr.mono (by decide)) rfl T.mg_l_mixture T.F_l_mixture.kp (b_l_mixture T) .nil pass0 (pa_cons (pv 2) (pa_cons (pv 6) (pa_cons (pv 3) (pa_cons (pv 7) (pa_cons (pv 8) (pa_nil))))))))
 (@pss_cons _ _ _ _ _ (ps_if (pt_cmpR op_gt (pe_callB (call_len_seqK K) rfl T.m_len PySem.boot_len (pa_cons (pe_ix (ix_listK K) (pv 11) (pe_int) (fun _ _ => rfl)) (pa_nil))) (pe_int) (nomark _))
 (@pss_one _ _ _ (ps_ret (pe_cmpR op_eq (pe_call (ok_l_name T) (hr.mono (by decide)) rfl T.mg_l_name T.F_l_name.kp (b_l_name T) .nil pass0 (pa_cons (pv 9) (pa_cons (pv 10) (pa_cons (pe_callTy (call_list_ofK K) rfl T.m_list boot_list (pa_cons (pv 8) (pa_nil))) (pa_nil))))) (pe_str) (nomark _))))
 (pss_nil))
 (@pss_cons _ _ _ _ _ (ps_set (i := 12) sc_law.nd rfl (Or.inl rfl) (pe_callTy (call_list_ofK K) rfl T.m_list boot_list (pa_cons (pv 8) (pa_nil))))
 (@pss_cons _ _ _ _ _ (ps_set (i := 13) sc_law.nd rfl (Or.inl rfl) (pe_call (ok_mixed T) (hr.mono (by decide)) rfl T.mg_mixed T.F_mixed.kp (b_mixed T) .nil pass0X (pa_cons (pv 9) (pa_cons (pv 10) (pa_cons (pv 12) (pa_nil))))))
 (@pss_one _ _ _ (ps_ret (pe_and (pe_cmpR (op_eqDK K hr.units) (pv 12) (pv 8) (nomark _)) (pe_one (pe_call (ok_l_house_is T) (hr.mono (by decide)) rfl T.mg_l_house_is T.F_l_house_is.kp (b_l_house_is T) .nil pass0 (pa_cons (pv 13) (pa_cons (pv 1) (pa_cons (pe_ix (ix_listK K) (pv 11) (pe_int) (fun _ _ => rfl)) (pa_cons (pe_ix (ix_listK K) (pv 11) (pe_int) (fun _ _ => rfl)) (pa_nil))))))))))))))))))))))), ?_⟩
    repeat walk_at "sx"
    refine ⟨a, ns, 0, rfl, hS, by decide, ?_⟩
    repeat walk_at "sx"
    obtain ⟨d, hd⟩ : ∃ d, d = 1 + cellv ns 0 % 5 := ⟨_, rfl⟩
    have hd1 : 1 ≤ d := by omega
    have hd5 : d ≤ 5 := by omega
    rw [← hd]
    clear hd
    refine ⟨a, ns, 1, rfl, hS, by decide, ?_⟩
    repeat walk_at "sx"
    refine ⟨a, ns, 2, rfl, hS, by decide, ?_⟩
    repeat walk_at "sx"
    obtain ⟨r, hr⟩ : ∃ r, r = 1 + cellv ns 2 % 6 := ⟨_, rfl⟩
    have hr1 : 1 ≤ r := by omega
    have hr6 : r ≤ 6 := by omega
    rw [← hr]
    clear hr
    refine ⟨_, d, r, rfl, by omega, by omega, by omega, by omega, fun aw rs H1 s1 M1 new1 => ?_⟩
    have hW : Ways d (waysBy (cellv ns 1) d r) := waysBy_ok _ (by omega) (by omega)
    have hWl : (waysBy (cellv ns 1) d r).length = r.toNat := waysBy_len _ _ _
    generalize waysBy (cellv ns 1) d r = rss at M1 hW hWl
    repeat walk_at "sx"
    refine ⟨a, ns, 3, rfl, sqL_same s1 hS, by decide, ?_⟩
    repeat walk_at "sx"
    refine ⟨a, ns, 4, rfl, sqL_same s1 hS, by decide, ?_⟩
    repeat walk_at "sx"
    obtain ⟨r', hr'⟩ : ∃ r, r = 1 + cellv ns 4 % 6 := ⟨_, rfl⟩
    have hr1' : 1 ≤ r' := by omega
    have hr6' : r' ≤ 6 := by omega
    rw [← hr']
    clear hr'
    refine ⟨_, d, r', rfl, by omega, by omega, by omega, by omega, fun ao rs2 H2 s2 M2 new2 => ?_⟩
    have hW2 : Ways d (waysBy (cellv ns 3) d r') := waysBy_ok _ (by omega) (by omega)
    have hWl2 : (waysBy (cellv ns 3) d r').length = r'.toNat := waysBy_len _ _ _
    generalize waysBy (cellv ns 3) d r' = sss at M2 hW2 hWl2
    have Y0 : Y10 H H2 d aw ao rs rs2 rss sss := ⟨s1.trans s2, M1.same s2, M2, hW, hW2, by omega, by omega, by omega, by omega, by
      have := Nat.mul_le_mul (show rss.length ≤ 6 by omega) (show sss.length ≤ 6 by omega)
      omega, hd1, hd5⟩
    clear M1 M2 new1 new2 s1 s2 hW hW2 hWl hWl2 hd1 hd5 hr1 hr6 hr1' hr6'
    repeat walk_at "sx"
    refine r_join (fun σ' H' => ∃ d aw ao rs rs2 rss sss k4 k5, Y10 H H' d aw ao rs rs2 rss sss ∧ σ' = [some (.ref a), some (.int d), some (.ref aw), some (.ref ao), k4, k5, none, none, none, none, none, none, none, none]) ?_ ?_
    · repeat walk_at "sx"
      refine ⟨a, ns, 0, rfl, sqL_same Y0.same hS, by decide, ?_⟩
      repeat walk_at "sx"
      refine r_eq rfl ?_
      repeat walk_at "sx"
      refine r_ite (fun hc => ?_) (fun hc => ?_)
      rotate_left
      · repeat walk_at "sx"
        exact ⟨d, aw, ao, rs, rs2, rss, sss, _, _, Y0, rfl⟩
      have s02 := Y0.same
      clear Y0
      repeat walk_at "sx"
      refine ⟨a, ns, 2, rfl, sqL_same s02 hS, by decide, ?_⟩
      repeat walk_at "sx"
      refine ⟨a, ns, 4, rfl, sqL_same s02 hS, by decide, ?_⟩
      repeat walk_at "sx"
      refine ⟨by show 2 ≤ sizeLine; decide, fun ro hro => ?_⟩
      have s3 : Same H2 (upd H2 ro (.lst [.int (1 + cellv ns 2 % 25), .int (1 + cellv ns 4 % 25)])) := Same.upd_new hro
      have ro3 : (upd H2 ro (.lst [.int (1 + cellv ns 2 % 25), .int (1 + cellv ns 4 % 25)])) ro = some (.lst [.int (1 + cellv ns 2 % 25), .int (1 + cellv ns 4 % 25)]) := upd_same
      generalize upd H2 ro (.lst [.int (1 + cellv ns 2 % 25), .int (1 + cellv ns 4 % 25)]) = H3 at s3 ro3 ⊢
      have s03 := s02.trans s3
      repeat walk_at "sx"
      refine r_join (fun σ' H' => ∃ (ro : Addr) (x y : Int) (k5 : Option V), Same H H' ∧ H' ro = some (.lst [.int x, .int y]) ∧ 1 ≤ x ∧ x ≤ 400 ∧ 1 ≤ y ∧ y ≤ 400 ∧ x.toNat * y.toNat ≤ 900 ∧ σ' = [some (.ref a), some (.int 1), some (.ref aw), some (.ref ao), some (.ref ro), k5, none, none, none, none, none, none, none, none]) ?_ ?_
      · repeat walk_at "sx"
        refine ⟨a, ns, 2, rfl, sqL_same s03 hS, by decide, ?_⟩
        repeat walk_at "sx"
        refine r_eq rfl ?_
        repeat walk_at "sx"
        refine r_ite (fun hc => ?_) (fun hc => ?_)
        rotate_left
        · repeat walk_at "sx"
          refine ⟨ro, _, _, _, s03, ro3, by omega, by omega, by omega, by omega, ?_, rfl⟩
          have := Nat.mul_le_mul (show (1 + cellv ns 2 % 25).toNat ≤ 25 by omega) (show (1 + cellv ns 4 % 25).toNat ≤ 25 by omega)
          omega
        clear ro3 hro
        have t0 : Same H3 H3 := Same.refl _
        repeat walk_at "sx"
        refine ⟨by show 2 ≤ sizeLine; decide, fun c0 hc0 => ?_⟩
        have t1 : Same H3 (upd H3 c0 (.lst [.int 16, .int 25])) := Same.upd_new hc0
        have f0 : (upd H3 c0 (.lst [.int 16, .int 25])) c0 = some (.lst [.int 16, .int 25]) := upd_same
        generalize upd H3 c0 (.lst [.int 16, .int 25]) = G0 at t1 f0 ⊢
        repeat walk_at "sx"
        refine ⟨by show 2 ≤ sizeLine; decide, fun c1 hc1 => ?_⟩
        have t2 : Same G0 (upd G0 c1 (.lst [.int 25, .int 16])) := Same.upd_new hc1
        have f1 : (upd G0 c1 (.lst [.int 25, .int 16])) c1 = some (.lst [.int 25, .int 16]) := upd_same
        generalize upd G0 c1 (.lst [.int 25, .int 16]) = G1 at t2 f1 ⊢
        repeat walk_at "sx"
        refine ⟨by show 2 ≤ sizeLine; decide, fun c2 hc2 => ?_⟩
        have t3 : Same G1 (upd G1 c2 (.lst [.int 400, .int 1])) := Same.upd_new hc2
        have f2 : (upd G1 c2 (.lst [.int 400, .int 1])) c2 = some (.lst [.int 400, .int 1]) := upd_same
        generalize upd G1 c2 (.lst [.int 400, .int 1]) = G2 at t3 f2 ⊢
        repeat walk_at "sx"
        refine ⟨by show 2 ≤ sizeLine; decide, fun c3 hc3 => ?_⟩
        have t4 : Same G2 (upd G2 c3 (.lst [.int 1, .int 400])) := Same.upd_new hc3
        have f3 : (upd G2 c3 (.lst [.int 1, .int 400])) c3 = some (.lst [.int 1, .int 400]) := upd_same
        generalize upd G2 c3 (.lst [.int 1, .int 400]) = G3 at t4 f3 ⊢
        repeat walk_at "sx"
        refine ⟨by show 2 ≤ sizeLine; decide, fun c4 hc4 => ?_⟩
        have t5 : Same G3 (upd G3 c4 (.lst [.int 201, .int 2])) := Same.upd_new hc4
        have f4 : (upd G3 c4 (.lst [.int 201, .int 2])) c4 = some (.lst [.int 201, .int 2]) := upd_same
        generalize upd G3 c4 (.lst [.int 201, .int 2]) = G4 at t5 f4 ⊢
        repeat walk_at "sx"
        refine ⟨by show 2 ≤ sizeLine; decide, fun c5 hc5 => ?_⟩
        have t6 : Same G4 (upd G4 c5 (.lst [.int 24, .int 17])) := Same.upd_new hc5
        have f5 : (upd G4 c5 (.lst [.int 24, .int 17])) c5 = some (.lst [.int 24, .int 17]) := upd_same
        generalize upd G4 c5 (.lst [.int 24, .int 17]) = G5 at t6 f5 ⊢
        repeat walk_at "sx"
        refine ⟨by show 2 ≤ sizeLine; decide, fun c6 hc6 => ?_⟩
        have t7 : Same G5 (upd G5 c6 (.lst [.int 19, .int 21])) := Same.upd_new hc6
        have f6 : (upd G5 c6 (.lst [.int 19, .int 21])) c6 = some (.lst [.int 19, .int 21]) := upd_same
        generalize upd G5 c6 (.lst [.int 19, .int 21]) = G6 at t7 f6 ⊢
        repeat walk_at "sx"
        refine ⟨by show 2 ≤ sizeLine; decide, fun c7 hc7 => ?_⟩
        have t8 : Same G6 (upd G6 c7 (.lst [.int 8, .int 50])) := Same.upd_new hc7
        have f7 : (upd G6 c7 (.lst [.int 8, .int 50])) c7 = some (.lst [.int 8, .int 50]) := upd_same
        generalize upd G6 c7 (.lst [.int 8, .int 50]) = G7 at t8 f7 ⊢
        repeat walk_at "sx"
        refine ⟨by show 2 ≤ sizeLine; decide, fun c8 hc8 => ?_⟩
        have t9 : Same G7 (upd G7 c8 (.lst [.int 67, .int 6])) := Same.upd_new hc8
        have f8 : (upd G7 c8 (.lst [.int 67, .int 6])) c8 = some (.lst [.int 67, .int 6]) := upd_same
        generalize upd G7 c8 (.lst [.int 67, .int 6]) = G8 at t9 f8 ⊢
        repeat walk_at "sx"
        refine ⟨by show 9 ≤ sizeLine; decide, fun so hso => ?_⟩
        have t10 : Same G8 (upd G8 so (.lst [.ref c0, .ref c1, .ref c2, .ref c3, .ref c4, .ref c5, .ref c6, .ref c7, .ref c8])) := Same.upd_new hso
        have so9 : (upd G8 so (.lst [.ref c0, .ref c1, .ref c2, .ref c3, .ref c4, .ref c5, .ref c6, .ref c7, .ref c8])) so = some (.lst [.ref c0, .ref c1, .ref c2, .ref c3, .ref c4, .ref c5, .ref c6, .ref c7, .ref c8]) := upd_same
        generalize upd G8 so (.lst [.ref c0, .ref c1, .ref c2, .ref c3, .ref c4, .ref c5, .ref c6, .ref c7, .ref c8]) = G9 at t10 so9 ⊢
        have e9 : Same G8 G9 := t10
        have e8 : Same G7 G9 := t9.trans e9
        have e7 : Same G6 G9 := t8.trans e8
        have e6 : Same G5 G9 := t7.trans e7
        have e5 : Same G4 G9 := t6.trans e6
        have e4 : Same G3 G9 := t5.trans e5
        have e3 : Same G2 G9 := t4.trans e4
        have e2 : Same G1 G9 := t3.trans e3
        have e1 : Same G0 G9 := t2.trans e2
        have e0 : Same H3 G9 := t1.trans e1
        repeat walk_at "sx"
        refine ⟨a, ns, 4, rfl, sqL_same (s03.trans e0) hS, by decide, ?_⟩
        repeat walk_at "sx"
        obtain ⟨c, x, y, hat, hcx, x1, x4, y1, y4, xy⟩ : ∃ (c : Addr) (x y : Int), atI [V.ref c0, .ref c1, .ref c2, .ref c3, .ref c4, .ref c5, .ref c6, .ref c7, .ref c8] (cellv ns 4 % 9) = some (.ref c) ∧ G9 c = some (.lst [.int x, .int y]) ∧ 1 ≤ x ∧ x ≤ 400 ∧ 1 ≤ y ∧ y ≤ 400 ∧ x.toNat * y.toNat ≤ 900 := by
          rcases (show cellv ns 4 % 9 = 0 ∨ cellv ns 4 % 9 = 1 ∨ cellv ns 4 % 9 = 2 ∨ cellv ns 4 % 9 = 3 ∨ cellv ns 4 % 9 = 4 ∨ cellv ns 4 % 9 = 5 ∨ cellv ns 4 % 9 = 6 ∨ cellv ns 4 % 9 = 7 ∨ cellv ns 4 % 9 = 8 by omega) with h | h | h | h | h | h | h | h | h
          · exact ⟨c0, 16, 25, by rw [h]; exact atI_nat (j := 0) rfl, e1 _ _ f0, by decide, by decide, by decide, by decide, by decide⟩
          · exact ⟨c1, 25, 16, by rw [h]; exact atI_nat (j := 1) rfl, e2 _ _ f1, by decide, by decide, by decide, by decide, by decide⟩
          · exact ⟨c2, 400, 1, by rw [h]; exact atI_nat (j := 2) rfl, e3 _ _ f2, by decide, by decide, by decide, by decide, by decide⟩
          · exact ⟨c3, 1, 400, by rw [h]; exact atI_nat (j := 3) rfl, e4 _ _ f3, by decide, by decide, by decide, by decide, by decide⟩
          · exact ⟨c4, 201, 2, by rw [h]; exact atI_nat (j := 4) rfl, e5 _ _ f4, by decide, by decide, by decide, by decide, by decide⟩
          · exact ⟨c5, 24, 17, by rw [h]; exact atI_nat (j := 5) rfl, e6 _ _ f5, by decide, by decide, by decide, by decide, by decide⟩
          · exact ⟨c6, 19, 21, by rw [h]; exact atI_nat (j := 6) rfl, e7 _ _ f6, by decide, by decide, by decide, by decide, by decide⟩
          · exact ⟨c7, 8, 50, by rw [h]; exact atI_nat (j := 7) rfl, e8 _ _ f7, by decide, by decide, by decide, by decide, by decide⟩
          · exact ⟨c8, 67, 6, by rw [h]; exact atI_nat (j := 8) rfl, e9 _ _ f8, by decide, by decide, by decide, by decide, by decide⟩
        refine r_ixL (SqL.of so9) hat ?_
        repeat walk_at "sx"
        refine ⟨c, _, rfl, .inl (SqL.of hcx), fun rn hrn => ?_⟩
        have s4 : Same G9 (upd G9 rn (.lst [.int x, .int y])) := Same.upd_new hrn
        repeat walk_at "sx"
        exact ⟨rn, x, y, _, s03.trans (e0.trans s4), upd_same, x1, x4, y1, y4, xy, rfl⟩
      rintro σ' H4 ⟨ro, x, y, k5, s04, ro4, x1, x4, y1, y4, xy, rfl⟩
      clear ro3 s3 s03 hro s02
      have hx0 : (0 : Int) < x := by omega
      have hy0 : (0 : Int) < y := by omega
      repeat walk_at "sx"
      refine r_ixL (SqL.of ro4) (atI_nat (j := 0) rfl) ?_
      repeat walk_at "sx"
      refine ⟨_, rfl, by omega, by omega, ?_⟩
      refine comp_range (fun acc i ys H' => ∃ rs', ys = rs'.map V.ref ∧ rs'.length = i ∧ Grown H4 H' acc rs' (fun k => [((k : Int) + 1) % x])) (fun acc hacc => ⟨[], rfl, rfl, Grown.start hacc⟩) (fun acc i ys H' hacc hi p => ?_) (fun ac1 ys H5 hac1 p => ?_)
      · obtain ⟨rs', rfl, hlen', G⟩ := p
        have e0 : (0 : Int) + (i : Int) = (i : Int) := by omega
        rw [e0]
        repeat walk_at "sx"
        refine ⟨Wk.set rfl, ?_⟩
        repeat walk_at "sx"
        refine r_ixL (SqL.of (G.same _ _ ro4)) (atI_nat (j := 0) rfl) ?_
        repeat walk_at "sx"
        refine ⟨by show 1 ≤ sizeLine; decide, fun acc2 h2 => ?_⟩
        have hla : acc ≠ acc2 := fun z => G.fresh h2 (by rw [z]; exact List.mem_cons_self)
        refine ⟨by rw [upd_ne hla]; exact G.top, small1000 (by simp; omega), rs' ++ [acc2], by simp, by simp [hlen'], ?_⟩
        have := G.snoc h2
        rw [hlen'] at this
        exact this
      obtain ⟨rs1, rfl, hlen1, G1⟩ := p
      have Mg1 := G1.mat
      have Wg1 : Ways 1 ((List.range rs1.length).map fun k => [(((k : Nat) : Int) + 1) % x]) := by
        refine ways_map _ _ hlen1 hx0 fun k hk => ⟨rfl, fun z hz => ?_⟩
        rw [List.mem_singleton.mp hz]
        exact ⟨Int.emod_nonneg _ (by omega), Int.emod_lt_of_pos _ hx0⟩
      have ro5 := G1.same _ _ ro4
      repeat walk_at "sx"
      refine r_ixL (SqL.of ro5) (atI_nat (j := 1) rfl) ?_
      repeat walk_at "sx"
      refine ⟨_, rfl, by omega, by omega, ?_⟩
      refine comp_range (fun acc i ys H' => ∃ rs', ys = rs'.map V.ref ∧ rs'.length = i ∧ Grown H5 H' acc rs' (fun k => [((k : Int) + 1) % y])) (fun acc hacc => ⟨[], rfl, rfl, Grown.start hacc⟩) (fun acc i ys H' hacc hi p => ?_) (fun ac2 ys H6 hac2 p => ?_)
      · obtain ⟨rs', rfl, hlen', G⟩ := p
        have e0 : (0 : Int) + (i : Int) = (i : Int) := by omega
        rw [e0]
        repeat walk_at "sx"
        refine ⟨Wk.set rfl, ?_⟩
        repeat walk_at "sx"
        refine r_ixL (SqL.of (G.same _ _ ro5)) (atI_nat (j := 1) rfl) ?_
        repeat walk_at "sx"
        refine ⟨by show 1 ≤ sizeLine; decide, fun acc2 h2 => ?_⟩
        have hla : acc ≠ acc2 := fun z => G.fresh h2 (by rw [z]; exact List.mem_cons_self)
        refine ⟨by rw [upd_ne hla]; exact G.top, small1000 (by simp; omega), rs' ++ [acc2], by simp, by simp [hlen'], ?_⟩
        have := G.snoc h2
        rw [hlen'] at this
        exact this
      obtain ⟨rs3, rfl, hlen3, G2⟩ := p
      have Mg2 := G2.mat
      have Wg2 : Ways 1 ((List.range rs3.length).map fun k => [(((k : Nat) : Int) + 1) % y]) := by
        refine ways_map _ _ hlen3 hy0 fun k hk => ⟨rfl, fun z hz => ?_⟩
        rw [List.mem_singleton.mp hz]
        exact ⟨Int.emod_nonneg _ (by omega), Int.emod_lt_of_pos _ hy0⟩
      repeat walk_at "sx"
      refine ⟨1, ac1, ac2, rs1, rs3, _, _, _, _, ⟨s04.trans (G1.same.trans G2.same), Mg1.same G2.same, Mg2, Wg1, Wg2, ?_, ?_, ?_, ?_, ?_, by omega, by omega⟩, rfl⟩
      · rw [List.length_map, List.length_range]; omega
      · rw [List.length_map, List.length_range]; omega
      · rw [List.length_map, List.length_range]; omega
      · rw [List.length_map, List.length_range]; omega
      · rw [List.length_map, List.length_range, List.length_map, List.length_range, hlen1, hlen3]; exact xy
    clear Y0
    rintro σ' H3 ⟨d, aw, ao, rs, rs2, rss, sss, k4, k5, Y3, rfl⟩
    have hd1 := Y3.d1
    have hd5 := Y3.d5
    have hr1 := Y3.r1
    have hr2 := Y3.r2
    have hr4 := Y3.r4
    have hs4 := Y3.s4
    repeat walk_at "sx"
    refine ⟨a, ns, 5, rfl, sqL_same Y3.same hS, by decide, ?_⟩
    repeat walk_at "sx"
    refine ⟨aw, _, rfl, .inl (SqL.of Y3.M1.top), ?_⟩
    rw [List.length_map, Y3.M1.len]
    repeat walk_at "sx"
    refine ⟨_, _, rfl, by omega, by omega, fun al hal => ?_⟩
    have hLl : (lampsBy (cellv ns 5) (rss.length : Int)).length = rss.length := by rw [lampsBy_len]; omega
    generalize lampsBy (cellv ns 5) (rss.length : Int) = ls at hLl ⊢
    have s4 : Same H3 (upd H3 al (.lst (ls.map V.bl))) := Same.upd_new hal
    have al4 : (upd H3 al (.lst (ls.map V.bl))) al = some (.lst (ls.map V.bl)) := upd_same
    generalize upd H3 al (.lst (ls.map V.bl)) = H4 at s4 al4 ⊢
    have Y4 := Y3.tick s4
    clear Y3 hal
    repeat walk_at "sx"
    refine ⟨a, ns, 6, rfl, sqL_same Y4.same hS, by decide, ?_⟩
    repeat walk_at "sx"
    refine ⟨ao, _, rfl, .inl (SqL.of Y4.M2.top), ?_⟩
    rw [List.length_map, Y4.M2.len]
    repeat walk_at "sx"
    refine ⟨_, _, rfl, by omega, by omega, fun ol hol => ?_⟩
    have hLl2 : (lampsBy (cellv ns 6) (sss.length : Int)).length = sss.length := by rw [lampsBy_len]; omega
    generalize lampsBy (cellv ns 6) (sss.length : Int) = ls2 at hLl2 ⊢
    have s5 : Same H4 (upd H4 ol (.lst (ls2.map V.bl))) := Same.upd_new hol
    have ol5 : (upd H4 ol (.lst (ls2.map V.bl))) ol = some (.lst (ls2.map V.bl)) := upd_same
    generalize upd H4 ol (.lst (ls2.map V.bl)) = H5 at s5 ol5 ⊢
    have Y5 := Y4.tick s5
    have al5 := s5 _ _ al4
    clear Y4 hol s4 s5 al4
    have V1 : Valid d rss ls := { row := Y5.W1.row, d1 := hd1, d6 := by omega, r1 := hr1, r400 := hr4, ll := hLl }
    have V2 : Valid d sss ls2 := { row := Y5.W2.row, d1 := hd1, d6 := by omega, r1 := hr2, r400 := hs4, ll := hLl2 }
    repeat walk_at "sx"
    refine r_itup ?_
    repeat walk_at "sx"
    refine ⟨by show 4 ≤ sizeLine; decide, fun tp htp => ?_⟩
    have s6 : Same H5 (upd H5 tp (.tup [.int 1, .int 2, .int 4, .int 8])) := Same.upd_new htp
    have tp6 : (upd H5 tp (.tup [.int 1, .int 2, .int 4, .int 8])) tp = some (.tup (bits.map V.int)) := upd_same
    generalize upd H5 tp (.tup [.int 1, .int 2, .int 4, .int 8]) = H6 at s6 tp6 ⊢
    have Y6 := Y5.tick s6
    have al6 := s6 _ _ al5
    have ol6 := s6 _ _ ol5
    clear Y5 al5 ol5 s6 htp
    refine ⟨tp, rfl, ⟨_, SqT.of tp6⟩, ?_⟩
    refine comp_tup (xs := bits.map V.int) (fun acc i ys H' => ys = ((bits.take i).map fun b => decide (cellv ns 7 / b % 2 = 1)).map V.bl ∧ H' = upd H6 acc (.lst ys)) (fun acc hacc => ⟨rfl, rfl⟩) (fun acc i ys H' hacc _ p => by rw [p.2]; exact SqT.of (by rw [upd_ne (ne_of_none tp6 hacc)]; exact tp6)) (fun acc i x ys H' hacc hx p => ?_) (fun ta ys H7 hta p => ?_)
    · obtain ⟨rfl, rfl⟩ := p
      have hx0 := int_map_inv hx
      clear hx
      obtain ⟨b, rfl, hb⟩ := hx0
      have hb8 : 0 < b ∧ b ≤ 8 := by
        have := List.mem_of_getElem? hb
        simp only [bits, List.mem_cons, List.not_mem_nil, or_false] at this
        omega
      have hb0 : 0 < b := hb8.1
      have hb9 : b ≤ 8 := hb8.2
      have hi4 : i < 4 := (List.getElem?_eq_some_iff.mp hb).1
      repeat walk_at "sx"
      refine ⟨Wk.set rfl, ?_⟩
      repeat walk_at "sx"
      refine ⟨a, ns, 7, rfl, sqL_same (Y6.same.trans (Same.upd_new hacc)) hS, by decide, ?_⟩
      repeat walk_at "sx"
      refine ⟨_, _, rfl, rfl, ⟨hb0, by omega⟩, ?_⟩
      repeat walk_at "sx"
      refine r_eq rfl ?_
      refine ⟨upd_same, small1000 (by simp; omega), ?_, ?_⟩
      · rw [take_snocA hb, List.map_append, List.map_append]
        congr 1
        simp
      · rw [upd_upd]
    obtain ⟨rfl, rfl⟩ := p
    rw [List.length_map, List.take_length]
    have h4 : (bits.map fun b => decide (cellv ns 7 / b % 2 = 1)).length = 4 := by rw [List.length_map]; rfl
    generalize (bits.map fun b => decide (cellv ns 7 / b % 2 = 1)) = tb at h4 ⊢
    have s7 : Same H6 (upd H6 ta (.lst (tb.map V.bl))) := Same.upd_new hta
    have ta7 : (upd H6 ta (.lst (tb.map V.bl))) ta = some (.lst (tb.map V.bl)) := upd_same
    generalize upd H6 ta (.lst (tb.map V.bl)) = H7 at s7 ta7 ⊢
    have Y7 := Y6.tick s7
    have al7 := s7 _ _ al6
    have ol7 := s7 _ _ ol6
    clear Y6 al6 ol6 s7 hta tp6
    repeat walk_at "sx"
    intro p1 dx1 e1 e2 e3
    have sm1 : Same H7 (upd (upd H7 dx1 (.own p1)) p1 (.ins t.C_House dx1 [])) := (Same.upd_new e2).trans (Same.upd_new (by rw [upd_ne (Ne.symm e3)]; exact e1))
    refine ⟨p1, dx1, d, aw, rs, rss, al, ls, rfl, upd_same, Y7.M1.same sm1, SqL.of (sm1 _ _ al7), V1, fun H8 aw8 rs8 al8 hh8 keep8 new8 => ⟨rfl, ?_⟩⟩
    have s8 : Same H7 H8 := fun b o e => keep8 b o (sm1 b o e) (ne_of_none e e1)
    have Y8 := Y7.tick s8
    have al9 := s8 _ _ al7
    have ol8 := s8 _ _ ol7
    have ta8 := s8 _ _ ta7
    clear keep8 new8 sm1 e1 e2 e3 Y7 al7 ol7 ta7 s8
    repeat walk_at "sx"
    refine ⟨a, ns, 8, rfl, sqL_same Y8.same hS, by decide, ?_⟩
    repeat walk_at "sx"
    refine r_eq rfl ?_
    repeat walk_at "sx"
    refine r_ite (fun hc => ?_) (fun hc => ?_)
    · repeat walk_at "sx"
      refine ⟨ao, rfl, ⟨_, SqL.of Y8.M2.top⟩, ?_⟩
      refine comp_list (xs := rs2.map V.ref) (fun acc i ys H' => ∃ rs', ys = rs'.map V.ref ∧ rs'.length = i ∧ Grown H8 H' acc rs' (fun k => (sss.getD k []) ++ [0])) (fun acc hacc => ⟨[], rfl, rfl, Grown.start hacc⟩) (fun acc i ys H' hacc _ p => by obtain ⟨rs', _, _, G⟩ := p; exact SqL.of (G.same _ _ Y8.M2.top)) (fun acc i x ys H' hacc hx p => ?_) (fun ac1 ys H9 hac1 p => ?_)
      · obtain ⟨rs', rfl, hlen', G⟩ := p
        have hx0 := ref_map_inv hx
        clear hx
        obtain ⟨c0, rfl, hc0⟩ := hx0
        have hi : i < sss.length := by rw [← Y8.M2.len]; exact (List.getElem?_eq_some_iff.mp hc0).1
        have hrow := G.same _ _ (Y8.M2.row i c0 _ hc0 (List.getElem?_eq_getElem hi))
        have hrl := (Y8.W2.row _ (List.getElem_mem hi)).1
        have egd : sss.getD rs'.length [] = sss[i] := by rw [hlen', List.getD_eq_getElem?_getD, List.getElem?_eq_getElem hi, Option.getD_some]
        repeat walk_at "sx"
        refine ⟨Wk.set rfl, ?_⟩
        repeat walk_at "sx"
        refine ⟨by show 1 ≤ sizeLine; decide, fun c1 h1 => ?_⟩
        have q1 : (upd H' c1 (.lst [.int 0])) c1 = some (.lst [.int 0]) := upd_same
        have sq1 : Same H' (upd H' c1 (.lst [.int 0])) := Same.upd_new h1
        refine ⟨c0, c1, _, _, rfl, rfl, sq1 _ _ hrow, q1, Nat.le_of_lt (small1000 (by simp; omega)), fun c2 h2 => ?_⟩
        have n21 : c2 ≠ c1 := fun z => by rw [z, q1] at h2; cases h2
        have h2' : H' c2 = none := sq1.free h2
        have nac : acc ≠ c2 := fun z => G.fresh h2' (by rw [z]; exact List.mem_cons_self)
        have nac1 : acc ≠ c1 := fun z => G.fresh h1 (by rw [z]; exact List.mem_cons_self)
        refine ⟨by rw [upd_ne nac, upd_ne nac1]; exact G.top, small1000 (by simp; omega), rs' ++ [c2], by simp, by simp [hlen'], ?_⟩
        refine G.step h2' (by rw [upd_same, List.map_append]; rfl) ?_ (fun b o hb _ e => by rw [upd_ne hb, upd_ne (ne_of_none (sq1 _ _ e) h2)]; exact sq1 _ _ e)
        rw [upd_ne (Ne.symm nac), upd_same, egd, List.map_append]; rfl
      obtain ⟨rs9, rfl, hlen9, G⟩ := p
      rw [List.length_map, Y8.M2.len] at hlen9
      have e9 : (List.range rs9.length).map (fun k => (sss.getD k []) ++ [0]) = sss.map fun r => r ++ [0] := by
        apply List.ext_getElem
        · simp [hlen9]
        · intro k h1 h2
          simp only [List.getElem_map, List.getElem_range]
          rw [List.length_map] at h2
          rw [List.getD_eq_getElem?_getD, List.getElem?_eq_getElem h2]; rfl
      have Mg := G.mat
      rw [e9] at Mg
      have V3 : Valid (d + 1) (sss.map fun r => r ++ [0]) ls2 := { row := (ways_more Y8.W2 (by omega)).row, d1 := by omega, d6 := by omega, r1 := by rw [List.length_map]; exact hr2, r400 := by rw [List.length_map]; exact hs4, ll := by rw [List.length_map]; exact hLl2 }
      generalize (sss.map fun r => r ++ [0]) = uss at Mg V3
      have s9 := G.same
      have ol9 := s9 _ _ ol8
      have ta9 := s9 _ _ ta8
      have hh9 := hh8.same s9
      clear G
      repeat walk_at "sx"
      intro p2 dx2 e1 e2 e3
      have sm2 : Same H9 (upd (upd H9 dx2 (.own p2)) p2 (.ins t.C_House dx2 [])) := (Same.upd_new e2).trans (Same.upd_new (by rw [upd_ne (Ne.symm e3)]; exact e1))
      refine ⟨p2, dx2, d + 1, ac1, rs9, uss, ol, ls2, rfl, upd_same, Mg.same sm2, SqL.of (sm2 _ _ ol9), V3, fun H10 aw10 rs10 al10 hh10 keep10 new10 => ⟨rfl, ?_⟩⟩
      have s10 : Same H9 H10 := fun b o e => keep10 b o (sm2 b o e) (ne_of_none e e1)
      have hh1 := hh9.same s10
      have ta10 := s10 _ _ ta9
      clear keep10 new10 sm2 e1 e2 e3
      repeat walk_at "sx"
      refine ⟨ta, _, rfl, .inl (SqL.of ta10), fun t1 ht1 => ?_⟩
      have s11 : Same H10 (upd H10 t1 (.lst (tb.map V.bl))) := Same.upd_new ht1
      have t11 : (upd H10 t1 (.lst (tb.map V.bl))) t1 = some (.lst (tb.map V.bl)) := upd_same
      generalize upd H10 t1 (.lst (tb.map V.bl)) = H11 at s11 t11 ⊢
      repeat walk_at "sx"
      refine ⟨p1, p2, t1, d, d + 1, aw8, rs8, rss, al8, ls, aw10, rs10, uss, al10, ls2, tb, rfl, hh1.same s11, hh10.same s11, V1, V3, t11, h4, .inl (by omega), fun _ H12 s12 => ?_, fun z => absurd z (by omega)⟩
      repeat walk_at "sx"
      refine r_eq rfl ?_
      repeat walk_at "sx"
      refine r_iteP (by simp) ?_
      repeat walk_at "sx"
      refine ⟨ta, _, rfl, .inl (SqL.of (s12 _ _ (s11 _ _ ta10))), fun t2 ht2 => ?_⟩
      have s13 : Same H12 (upd H12 t2 (.lst (tb.map V.bl))) := Same.upd_new ht2
      have t21 : (upd H12 t2 (.lst (tb.map V.bl))) t2 = some (.lst (tb.map V.bl)) := upd_same
      generalize upd H12 t2 (.lst (tb.map V.bl)) = H13 at s13 t21 ⊢
      have s1013 : Same H10 H13 := s11.trans (s12.trans s13)
      repeat walk_at "sx"
      refine ⟨p2, p1, t2, d + 1, d, aw10, rs10, uss, al10, ls2, aw8, rs8, rss, al8, ls, tb, rfl, hh10.same s1013, hh1.same s1013, V3, V1, t21, h4, .inl (by omega), fun _ H14 s14 => ?_, fun z => absurd z (by omega)⟩
      repeat walk_at "sx"
      refine r_eq rfl ?_
      have ed : decide (V.str (Str.ofString "doors") = V.str (Str.ofString "doors")) = true := decide_eq_true rfl
      rw [ed]
      exact q _
    · repeat walk_at "sx"
      intro p2 dx2 e1 e2 e3
      have sm2 : Same H8 (upd (upd H8 dx2 (.own p2)) p2 (.ins t.C_House dx2 [])) := (Same.upd_new e2).trans (Same.upd_new (by rw [upd_ne (Ne.symm e3)]; exact e1))
      refine ⟨p2, dx2, d, ao, rs2, sss, ol, ls2, rfl, upd_same, Y8.M2.same sm2, SqL.of (sm2 _ _ ol8), V2, fun H9 aw9 rs9 al9' hh9 keep9 new9 => ⟨rfl, ?_⟩⟩
      have s9 : Same H8 H9 := fun b o e => keep9 b o (sm2 b o e) (ne_of_none e e1)
      have Y9 := Y8.tick s9
      have hh1 := hh8.same s9
      have al10 := s9 _ _ al9
      have ol9 := s9 _ _ ol8
      have ta9 := s9 _ _ ta8
      clear keep9 new9 sm2 e1 e2 e3 Y8
      repeat walk_at "sx"
      refine ⟨aw, rs, rss, al, ls, ao, rs2, sss, ol, ls2, ta, tb, d, rfl, Y9.M1, al10, Y9.M2, ol9, ta9, h4, Y9.W1, Y9.W2, by omega, by omega, hd1, by omega, hLl, hLl2, Y9.sz, fun H10 pr dl ds ml s10 pr10 Md ml10 => ?_⟩
      have hWl : (mixW rss sss).length = (finP rss sss).length := by unfold mixW; rw [List.length_map]
      have hFl := finP_len Y9.W1 Y9.W2 (by omega) (by omega)
      have hsz := Y9.sz
      repeat walk_at "sx"
      refine r_ixL (SqL.of pr10) (atI_nat (j := 0) rfl) ?_
      repeat walk_at "sx"
      refine ⟨dl, _, rfl, .inl (SqL.of Md.top), ?_⟩
      rw [List.length_map, Md.len, hWl]
      repeat walk_at "sx"
      refine r_ite (fun hbig => ?_) (fun hbig => ?_)
      · have hbig : 400 < (finP rss sss).length := by simp at hbig; omega
        repeat walk_at "sx"
        refine ⟨ta, _, rfl, .inl (SqL.of (s10 _ _ ta9)), fun t1 ht1 => ?_⟩
        have s11 : Same H10 (upd H10 t1 (.lst (tb.map V.bl))) := Same.upd_new ht1
        have t11 : (upd H10 t1 (.lst (tb.map V.bl))) t1 = some (.lst (tb.map V.bl)) := upd_same
        generalize upd H10 t1 (.lst (tb.map V.bl)) = H11 at s11 t11 ⊢
        repeat walk_at "sx"
        refine ⟨p1, p2, t1, d, d, aw8, rs8, rss, al8, ls, aw9, rs9, sss, al9', ls2, tb, rfl, hh1.same (s10.trans s11), hh9.same (s10.trans s11), V1, V2, t11, h4, .inr hbig, fun z => absurd rfl z, fun _ H12 s12 => ?_⟩
        repeat walk_at "sx"
        refine r_eq rfl ?_
        have ed : decide (V.str (Str.ofString "great") = V.str (Str.ofString "great")) = true := decide_eq_true rfl
        rw [ed]
        exact q _
      · have hbig : (finP rss sss).length ≤ 400 := by simp at hbig; omega
        repeat walk_at "sx"
        refine ⟨ta, _, rfl, .inl (SqL.of (s10 _ _ ta9)), fun t1 ht1 => ?_⟩
        have s11 : Same H10 (upd H10 t1 (.lst (tb.map V.bl))) := Same.upd_new ht1
        have t11 : (upd H10 t1 (.lst (tb.map V.bl))) t1 = some (.lst (tb.map V.bl)) := upd_same
        generalize upd H10 t1 (.lst (tb.map V.bl)) = H11 at s11 t11 ⊢
        repeat walk_at "sx"
        refine ⟨p1, p2, t1, d, d, aw8, rs8, rss, al8, ls, aw9, rs9, sss, al9', ls2, tb, rfl, hh1.same (s10.trans s11), hh9.same (s10.trans s11), V1, V2, t11, h4, fun z => absurd rfl z, fun _ z => absurd z (by omega), fun _ _ H12 gp gw gs gl s12 hg => ?_⟩
        have s1012 : Same H10 H12 := s11.trans s12
        repeat walk_at "sx"
        refine ⟨_, _, .lst (SqL.of (s12 _ _ t11)) (dts_bl K H12 tb), .lst (SqL.of (s1012 _ _ (s10 _ _ ta9))) (dts_bl K H12 tb), shaped_bl tb, shaped_bl tb, ?_⟩
        rw [eqv_bls]
        repeat walk_at "sx"
        refine r_iteP rfl ?_
        repeat walk_at "sx"
        refine r_ixL (SqL.of (s1012 _ _ pr10)) (atI_nat (j := 0) rfl) ?_
        repeat walk_at "sx"
        refine r_ixL (SqL.of (s1012 _ _ pr10)) (atI_nat (j := 1) rfl) ?_
        repeat walk_at "sx"
        refine ⟨gp, d, gw, gs, _, gl, _, dl, ds, ml, rfl, hg, Md.same s1012, SqL.of (s1012 _ _ ml10), by rw [hWl]; omega, ?_⟩
        exact q _
end
theorem txt_mk {K : PySem.W.Frag} {h : Heap} {mg : Str → Option Value} (X : K.In h) (G : h.Ns mainGlobals mg) {tk_MOST_DOORS : Tok} {tk_MOST_ROOMS : Tok} {C_House : Addr} {C_HouseError : Addr} {C_BadHouse : Addr} {C_OtherDoors : Addr} {C_TooGreat : Addr} {f_check_doors : Addr} {oc_check_doors kV_check_doors dc_check_doors pm_check_doors cd_check_doors ct_check_doors : Value} {od_check_doors an_check_doors : Option Addr} {sl_check_doors : Array (Option Value)} {f_check_house : Addr} {oc_check_house kV_check_house dc_check_house pm_check_house cd_check_house ct_check_house : Value} {od_check_house an_check_house : Option Addr} {sl_check_house : Array (Option Value)} {f_House_init : Addr} {oc_House_init kV_House_init dc_House_init pm_House_init cd_House_init ct_House_init : Value} {od_House_init an_House_init : Option Addr} {sl_House_init : Array (Option Value)} {f_House_rooms : Addr} {oc_House_rooms kV_House_rooms dc_House_rooms pm_House_rooms cd_House_rooms ct_House_rooms : Value} {od_House_rooms an_House_rooms : Option Addr} {sl_House_rooms : Array (Option Value)} {f_check_same_doors : Addr} {oc_check_same_doors kV_check_same_doors dc_check_same_doors pm_check_same_doors cd_check_same_doors ct_check_same_doors : Value} {od_check_same_doors an_check_same_doors : Option Addr} {sl_check_same_doors : Array (Option Value)} {f_pairs_ahead : Addr} {oc_pairs_ahead kV_pairs_ahead dc_pairs_ahead pm_pairs_ahead cd_pairs_ahead ct_pairs_ahead : Value} {od_pairs_ahead an_pairs_ahead : Option Addr} {sl_pairs_ahead : Array (Option Value)} {f_numbers_of_pairs : Addr} {oc_numbers_of_pairs kV_numbers_of_pairs dc_numbers_of_pairs pm_numbers_of_pairs cd_numbers_of_pairs ct_numbers_of_pairs : Value} {od_numbers_of_pairs an_numbers_of_pairs : Option Addr} {sl_numbers_of_pairs : Array (Option Value)} {f_truth_of : Addr} {oc_truth_of kV_truth_of dc_truth_of pm_truth_of cd_truth_of ct_truth_of : Value} {od_truth_of an_truth_of : Option Addr} {sl_truth_of : Array (Option Value)} {f_mixed : Addr} {oc_mixed kV_mixed dc_mixed pm_mixed cd_mixed ct_mixed : Value} {od_mixed an_mixed : Option Addr} {sl_mixed : Array (Option Value)} {f_l_cell_at : Addr} {oc_l_cell_at kV_l_cell_at dc_l_cell_at pm_l_cell_at cd_l_cell_at ct_l_cell_at : Value} {od_l_cell_at an_l_cell_at : Option Addr} {sl_l_cell_at : Array (Option Value)} {f_l_draw : Addr} {oc_l_draw kV_l_draw dc_l_draw pm_l_draw cd_l_draw ct_l_draw : Value} {od_l_draw an_l_draw : Option Addr} {sl_l_draw : Array (Option Value)} {f_l_ways_by : Addr} {oc_l_ways_by kV_l_ways_by dc_l_ways_by pm_l_ways_by cd_l_ways_by ct_l_ways_by : Value} {od_l_ways_by an_l_ways_by : Option Addr} {sl_l_ways_by : Array (Option Value)} {f_l_lamps_by : Addr} {oc_l_lamps_by kV_l_lamps_by dc_l_lamps_by pm_l_lamps_by cd_l_lamps_by ct_l_lamps_by : Value} {od_l_lamps_by an_l_lamps_by : Option Addr} {sl_l_lamps_by : Array (Option Value)} {f_l_whole : Addr} {oc_l_whole kV_l_whole dc_l_whole pm_l_whole cd_l_whole ct_l_whole : Value} {od_l_whole an_l_whole : Option Addr} {sl_l_whole : Array (Option Value)} {f_l_numbers : Addr} {oc_l_numbers kV_l_numbers dc_l_numbers pm_l_numbers cd_l_numbers ct_l_numbers : Value} {od_l_numbers an_l_numbers : Option Addr} {sl_l_numbers : Array (Option Value)} {f_l_truths : Addr} {oc_l_truths kV_l_truths dc_l_truths pm_l_truths cd_l_truths ct_l_truths : Value} {od_l_truths an_l_truths : Option Addr} {sl_l_truths : Array (Option Value)} {f_l_house_is : Addr} {oc_l_house_is kV_l_house_is dc_l_house_is pm_l_house_is cd_l_house_is ct_l_house_is : Value} {od_l_house_is an_l_house_is : Option Addr} {sl_l_house_is : Array (Option Value)} {f_l_stands_under : Addr} {oc_l_stands_under kV_l_stands_under dc_l_stands_under pm_l_stands_under cd_l_stands_under ct_l_stands_under : Value} {od_l_stands_under an_l_stands_under : Option Addr} {sl_l_stands_under : Array (Option Value)} {f_l_mixture : Addr} {oc_l_mixture kV_l_mixture dc_l_mixture pm_l_mixture cd_l_mixture ct_l_mixture : Value} {od_l_mixture an_l_mixture : Option Addr} {sl_l_mixture : Array (Option Value)} {f_l_name : Addr} {oc_l_name kV_l_name dc_l_name pm_l_name cd_l_name ct_l_name : Value} {od_l_name an_l_name : Option Addr} {sl_l_name : Array (Option Value)} {f_law : Addr} {oc_law kV_law dc_law pm_law cd_law ct_law : Value} {od_law an_law : Option Addr} {sl_law : Array (Option Value)}
    (z_len : PySem.W.nsIn K mainGlobals "len" = some none)
    (z_range : PySem.W.nsIn K mainGlobals "range" = some none)
    (z_isinstance : PySem.W.nsIn K mainGlobals "isinstance" = some none)
    (z_list : PySem.W.nsIn K mainGlobals "list" = some none)
    (z_int : PySem.W.nsIn K mainGlobals "int" = some none)
    (z_bool : PySem.W.nsIn K mainGlobals "bool" = some none)
    (z_enumerate : PySem.W.nsIn K mainGlobals "enumerate" = some none)
    (z_ValueError : PySem.W.nsIn K mainGlobals "ValueError" = some none)
    (z_zip : PySem.W.nsIn K mainGlobals "zip" = some none)
    (c_MOST_DOORS : PySem.W.nsIn K mainGlobals "MOST_DOORS" = some (some (.int 6 tk_MOST_DOORS)))
    (c_MOST_ROOMS : PySem.W.nsIn K mainGlobals "MOST_ROOMS" = some (some (.int 400 tk_MOST_ROOMS)))
    (a_House : PySem.W.nsIn K mainGlobals "House" = some (some (.ref C_House)))
    (pg_House : PySem.W.plainGet K C_House Str.empty = true)
    (hd_House : PySem.W.hasDictIn K C_House = true)
    (po_House : PySem.W.plainOver K C_House = true)
    (sa_House : PySem.W.findIn K (.ref C_House) "__setattr__" = some (some (.builtin "object.__setattr__")))
    (mk_House : PySem.W.makesIn K C_House = true)
    (kc_House : PySem.W.keepIn K (.ref C_House) = true)
    (tc_House : PySem.W.findIn K (.ref C_House) "__class__" = some (some (.builtin "object.__class__")))
    (tm_House : PySem.W.mroIn K C_House (.type "object") = some true)
    (n_House_doors : PySem.W.findIn K (.ref C_House) "doors" = some none)
    (n_House_ways : PySem.W.findIn K (.ref C_House) "ways" = some none)
    (n_House_lamps : PySem.W.findIn K (.ref C_House) "lamps" = some none)
    (a_HouseError : PySem.W.nsIn K mainGlobals "HouseError" = some (some (.ref C_HouseError)))
    (x_HouseError : PySem.W.excIn K C_HouseError bmV "ValueError.__new__" = true)
    (g1_HouseError : PySem.W.findIn K (.ref C_HouseError) "__getattribute__" = some (some (.builtin "BaseException.__getattribute__")))
    (g2_HouseError : PySem.W.findIn K (.ref C_HouseError) "__getattr__" = some none)
    (g3_HouseError : PySem.W.findIn K (.ref C_HouseError) "__class__" = some (some (.builtin "object.__class__")))
    (g4_HouseError : PySem.W.isClsIn K C_HouseError = true)
    (ty_HouseError : PySem.W.typeIn K (.ref C_HouseError) = some (.type "type"))
    (mv_HouseError : PySem.W.mroIn K C_HouseError (.type "ValueError") = some true)
    (ms_HouseError : PySem.W.mroIn K C_HouseError (.ref C_HouseError) = some true)
    (a_BadHouse : PySem.W.nsIn K mainGlobals "BadHouse" = some (some (.ref C_BadHouse)))
    (x_BadHouse : PySem.W.excIn K C_BadHouse bmV "ValueError.__new__" = true)
    (g1_BadHouse : PySem.W.findIn K (.ref C_BadHouse) "__getattribute__" = some (some (.builtin "BaseException.__getattribute__")))
    (g2_BadHouse : PySem.W.findIn K (.ref C_BadHouse) "__getattr__" = some none)
    (g3_BadHouse : PySem.W.findIn K (.ref C_BadHouse) "__class__" = some (some (.builtin "object.__class__")))
    (g4_BadHouse : PySem.W.isClsIn K C_BadHouse = true)
    (ty_BadHouse : PySem.W.typeIn K (.ref C_BadHouse) = some (.type "type"))
    (mv_BadHouse : PySem.W.mroIn K C_BadHouse (.type "ValueError") = some true)
    (ms_BadHouse : PySem.W.mroIn K C_BadHouse (.ref C_BadHouse) = some true)
    (a_OtherDoors : PySem.W.nsIn K mainGlobals "OtherDoors" = some (some (.ref C_OtherDoors)))
    (x_OtherDoors : PySem.W.excIn K C_OtherDoors bmV "ValueError.__new__" = true)
    (g1_OtherDoors : PySem.W.findIn K (.ref C_OtherDoors) "__getattribute__" = some (some (.builtin "BaseException.__getattribute__")))
    (g2_OtherDoors : PySem.W.findIn K (.ref C_OtherDoors) "__getattr__" = some none)
    (g3_OtherDoors : PySem.W.findIn K (.ref C_OtherDoors) "__class__" = some (some (.builtin "object.__class__")))
    (g4_OtherDoors : PySem.W.isClsIn K C_OtherDoors = true)
    (ty_OtherDoors : PySem.W.typeIn K (.ref C_OtherDoors) = some (.type "type"))
    (mv_OtherDoors : PySem.W.mroIn K C_OtherDoors (.type "ValueError") = some true)
    (ms_OtherDoors : PySem.W.mroIn K C_OtherDoors (.ref C_OtherDoors) = some true)
    (a_TooGreat : PySem.W.nsIn K mainGlobals "TooGreat" = some (some (.ref C_TooGreat)))
    (x_TooGreat : PySem.W.excIn K C_TooGreat bmV "ValueError.__new__" = true)
    (g1_TooGreat : PySem.W.findIn K (.ref C_TooGreat) "__getattribute__" = some (some (.builtin "BaseException.__getattribute__")))
    (g2_TooGreat : PySem.W.findIn K (.ref C_TooGreat) "__getattr__" = some none)
    (g3_TooGreat : PySem.W.findIn K (.ref C_TooGreat) "__class__" = some (some (.builtin "object.__class__")))
    (g4_TooGreat : PySem.W.isClsIn K C_TooGreat = true)
    (ty_TooGreat : PySem.W.typeIn K (.ref C_TooGreat) = some (.type "type"))
    (mv_TooGreat : PySem.W.mroIn K C_TooGreat (.type "ValueError") = some true)
    (ms_TooGreat : PySem.W.mroIn K C_TooGreat (.ref C_TooGreat) = some true)
    (mb_HouseError : PySem.W.mroIn K C_HouseError (.type "BaseException") = some true)
    (mb_BadHouse : PySem.W.mroIn K C_BadHouse (.type "BaseException") = some true)
    (mb_OtherDoors : PySem.W.mroIn K C_OtherDoors (.type "BaseException") = some true)
    (mb_TooGreat : PySem.W.mroIn K C_TooGreat (.type "BaseException") = some true)
    (mr_OtherDoors_HouseError : PySem.W.mroIn K C_OtherDoors (.ref C_HouseError) = some true)
    (mr_HouseError_OtherDoors : PySem.W.mroIn K C_HouseError (.ref C_OtherDoors) = some false)
    (mr_TooGreat_HouseError : PySem.W.mroIn K C_TooGreat (.ref C_HouseError) = some true)
    (mr_HouseError_TooGreat : PySem.W.mroIn K C_HouseError (.ref C_TooGreat) = some false)
    (mr_OtherDoors_TooGreat : PySem.W.mroIn K C_OtherDoors (.ref C_TooGreat) = some false)
    (mr_TooGreat_OtherDoors : PySem.W.mroIn K C_TooGreat (.ref C_OtherDoors) = some false)
    (mr_OtherDoors_BadHouse : PySem.W.mroIn K C_OtherDoors (.ref C_BadHouse) = some false)
    (mr_TooGreat_BadHouse : PySem.W.mroIn K C_TooGreat (.ref C_BadHouse) = some false)
    (tg : PySem.W.specialIn K (.builtin "object.__class__") "__get__" = some (some (.builtin "getset_descriptor.__get__")))
    (tt : PySem.W.takesIn K (.builtin "object.__class__") = some true)
    (a_check_doors : PySem.W.nsIn K mainGlobals "check_doors" = some (some (.ref f_check_doors)))
    (l_check_doors : K.lookup f_check_doors = some ⟨oc_check_doors, od_check_doors, .func (PySem.W.fnOf "check_doors" "check_doors" (defArgs s_check_doors) (defBody s_check_doors) (defScope s_check_doors) .none kV_check_doors dc_check_doors pm_check_doors an_check_doors cd_check_doors ct_check_doors), sl_check_doors⟩)
    (c_check_doors : PySem.W.codeIn K cd_check_doors "check_doors" = true)
    (k_check_doors : PySem.W.keepIn K (.ref f_check_doors) = true)
    (a_check_house : PySem.W.nsIn K mainGlobals "check_house" = some (some (.ref f_check_house)))
    (l_check_house : K.lookup f_check_house = some ⟨oc_check_house, od_check_house, .func (PySem.W.fnOf "check_house" "check_house" (defArgs s_check_house) (defBody s_check_house) (defScope s_check_house) .none kV_check_house dc_check_house pm_check_house an_check_house cd_check_house ct_check_house), sl_check_house⟩)
    (c_check_house : PySem.W.codeIn K cd_check_house "check_house" = true)
    (k_check_house : PySem.W.keepIn K (.ref f_check_house) = true)
    (a_House_init : PySem.W.findIn K (.ref C_House) "__init__" = some (some (.ref f_House_init)))
    (i_House_init : PySem.W.isFn K (.ref f_House_init) = true)
    (l_House_init : K.lookup f_House_init = some ⟨oc_House_init, od_House_init, .func (PySem.W.fnOf "__init__" "House.__init__" (defArgs s_House_init) (defBody s_House_init) (defScope s_House_init) .none kV_House_init dc_House_init pm_House_init an_House_init cd_House_init ct_House_init), sl_House_init⟩)
    (c_House_init : PySem.W.codeIn K cd_House_init "House.__init__" = true)
    (k_House_init : PySem.W.keepIn K (.ref f_House_init) = true)
    (a_House_rooms : PySem.W.findIn K (.ref C_House) "rooms" = some (some (.ref f_House_rooms)))
    (i_House_rooms : PySem.W.isFn K (.ref f_House_rooms) = true)
    (l_House_rooms : K.lookup f_House_rooms = some ⟨oc_House_rooms, od_House_rooms, .func (PySem.W.fnOf "rooms" "House.rooms" (defArgs s_House_rooms) (defBody s_House_rooms) (defScope s_House_rooms) .none kV_House_rooms dc_House_rooms pm_House_rooms an_House_rooms cd_House_rooms ct_House_rooms), sl_House_rooms⟩)
    (c_House_rooms : PySem.W.codeIn K cd_House_rooms "House.rooms" = true)
    (k_House_rooms : PySem.W.keepIn K (.ref f_House_rooms) = true)
    (a_check_same_doors : PySem.W.nsIn K mainGlobals "check_same_doors" = some (some (.ref f_check_same_doors)))
    (l_check_same_doors : K.lookup f_check_same_doors = some ⟨oc_check_same_doors, od_check_same_doors, .func (PySem.W.fnOf "check_same_doors" "check_same_doors" (defArgs s_check_same_doors) (defBody s_check_same_doors) (defScope s_check_same_doors) .none kV_check_same_doors dc_check_same_doors pm_check_same_doors an_check_same_doors cd_check_same_doors ct_check_same_doors), sl_check_same_doors⟩)
    (c_check_same_doors : PySem.W.codeIn K cd_check_same_doors "check_same_doors" = true)
    (k_check_same_doors : PySem.W.keepIn K (.ref f_check_same_doors) = true)
    (a_pairs_ahead : PySem.W.nsIn K mainGlobals "pairs_ahead" = some (some (.ref f_pairs_ahead)))
    (l_pairs_ahead : K.lookup f_pairs_ahead = some ⟨oc_pairs_ahead, od_pairs_ahead, .func (PySem.W.fnOf "pairs_ahead" "pairs_ahead" (defArgs s_pairs_ahead) (defBody s_pairs_ahead) (defScope s_pairs_ahead) .none kV_pairs_ahead dc_pairs_ahead pm_pairs_ahead an_pairs_ahead cd_pairs_ahead ct_pairs_ahead), sl_pairs_ahead⟩)
    (c_pairs_ahead : PySem.W.codeIn K cd_pairs_ahead "pairs_ahead" = true)
    (k_pairs_ahead : PySem.W.keepIn K (.ref f_pairs_ahead) = true)
    (a_numbers_of_pairs : PySem.W.nsIn K mainGlobals "numbers_of_pairs" = some (some (.ref f_numbers_of_pairs)))
    (l_numbers_of_pairs : K.lookup f_numbers_of_pairs = some ⟨oc_numbers_of_pairs, od_numbers_of_pairs, .func (PySem.W.fnOf "numbers_of_pairs" "numbers_of_pairs" (defArgs s_numbers_of_pairs) (defBody s_numbers_of_pairs) (defScope s_numbers_of_pairs) .none kV_numbers_of_pairs dc_numbers_of_pairs pm_numbers_of_pairs an_numbers_of_pairs cd_numbers_of_pairs ct_numbers_of_pairs), sl_numbers_of_pairs⟩)
    (c_numbers_of_pairs : PySem.W.codeIn K cd_numbers_of_pairs "numbers_of_pairs" = true)
    (k_numbers_of_pairs : PySem.W.keepIn K (.ref f_numbers_of_pairs) = true)
    (a_truth_of : PySem.W.nsIn K mainGlobals "truth_of" = some (some (.ref f_truth_of)))
    (l_truth_of : K.lookup f_truth_of = some ⟨oc_truth_of, od_truth_of, .func (PySem.W.fnOf "truth_of" "truth_of" (defArgs s_truth_of) (defBody s_truth_of) (defScope s_truth_of) .none kV_truth_of dc_truth_of pm_truth_of an_truth_of cd_truth_of ct_truth_of), sl_truth_of⟩)
    (c_truth_of : PySem.W.codeIn K cd_truth_of "truth_of" = true)
    (k_truth_of : PySem.W.keepIn K (.ref f_truth_of) = true)
    (a_mixed : PySem.W.nsIn K mainGlobals "mixed" = some (some (.ref f_mixed)))
    (l_mixed : K.lookup f_mixed = some ⟨oc_mixed, od_mixed, .func (PySem.W.fnOf "mixed" "mixed" (defArgs s_mixed) (defBody s_mixed) (defScope s_mixed) .none kV_mixed dc_mixed pm_mixed an_mixed cd_mixed ct_mixed), sl_mixed⟩)
    (c_mixed : PySem.W.codeIn K cd_mixed "mixed" = true)
    (k_mixed : PySem.W.keepIn K (.ref f_mixed) = true)
    (a_l_cell_at : PySem.W.nsIn K mainGlobals "_law_cell_at" = some (some (.ref f_l_cell_at)))
    (l_l_cell_at : K.lookup f_l_cell_at = some ⟨oc_l_cell_at, od_l_cell_at, .func (PySem.W.fnOf "_law_cell_at" "_law_cell_at" (defArgs s_l_cell_at) (defBody s_l_cell_at) (defScope s_l_cell_at) .none kV_l_cell_at dc_l_cell_at pm_l_cell_at an_l_cell_at cd_l_cell_at ct_l_cell_at), sl_l_cell_at⟩)
    (c_l_cell_at : PySem.W.codeIn K cd_l_cell_at "_law_cell_at" = true)
    (k_l_cell_at : PySem.W.keepIn K (.ref f_l_cell_at) = true)
    (a_l_draw : PySem.W.nsIn K mainGlobals "_law_draw" = some (some (.ref f_l_draw)))
    (l_l_draw : K.lookup f_l_draw = some ⟨oc_l_draw, od_l_draw, .func (PySem.W.fnOf "_law_draw" "_law_draw" (defArgs s_l_draw) (defBody s_l_draw) (defScope s_l_draw) .none kV_l_draw dc_l_draw pm_l_draw an_l_draw cd_l_draw ct_l_draw), sl_l_draw⟩)
    (c_l_draw : PySem.W.codeIn K cd_l_draw "_law_draw" = true)
    (k_l_draw : PySem.W.keepIn K (.ref f_l_draw) = true)
    (a_l_ways_by : PySem.W.nsIn K mainGlobals "_law_ways_by" = some (some (.ref f_l_ways_by)))
    (l_l_ways_by : K.lookup f_l_ways_by = some ⟨oc_l_ways_by, od_l_ways_by, .func (PySem.W.fnOf "_law_ways_by" "_law_ways_by" (defArgs s_l_ways_by) (defBody s_l_ways_by) (defScope s_l_ways_by) .none kV_l_ways_by dc_l_ways_by pm_l_ways_by an_l_ways_by cd_l_ways_by ct_l_ways_by), sl_l_ways_by⟩)
    (c_l_ways_by : PySem.W.codeIn K cd_l_ways_by "_law_ways_by" = true)
    (k_l_ways_by : PySem.W.keepIn K (.ref f_l_ways_by) = true)
    (a_l_lamps_by : PySem.W.nsIn K mainGlobals "_law_lamps_by" = some (some (.ref f_l_lamps_by)))
    (l_l_lamps_by : K.lookup f_l_lamps_by = some ⟨oc_l_lamps_by, od_l_lamps_by, .func (PySem.W.fnOf "_law_lamps_by" "_law_lamps_by" (defArgs s_l_lamps_by) (defBody s_l_lamps_by) (defScope s_l_lamps_by) .none kV_l_lamps_by dc_l_lamps_by pm_l_lamps_by an_l_lamps_by cd_l_lamps_by ct_l_lamps_by), sl_l_lamps_by⟩)
    (c_l_lamps_by : PySem.W.codeIn K cd_l_lamps_by "_law_lamps_by" = true)
    (k_l_lamps_by : PySem.W.keepIn K (.ref f_l_lamps_by) = true)
    (a_l_whole : PySem.W.nsIn K mainGlobals "_law_whole" = some (some (.ref f_l_whole)))
    (l_l_whole : K.lookup f_l_whole = some ⟨oc_l_whole, od_l_whole, .func (PySem.W.fnOf "_law_whole" "_law_whole" (defArgs s_l_whole) (defBody s_l_whole) (defScope s_l_whole) .none kV_l_whole dc_l_whole pm_l_whole an_l_whole cd_l_whole ct_l_whole), sl_l_whole⟩)
    (c_l_whole : PySem.W.codeIn K cd_l_whole "_law_whole" = true)
    (k_l_whole : PySem.W.keepIn K (.ref f_l_whole) = true)
    (a_l_numbers : PySem.W.nsIn K mainGlobals "_law_numbers" = some (some (.ref f_l_numbers)))
    (l_l_numbers : K.lookup f_l_numbers = some ⟨oc_l_numbers, od_l_numbers, .func (PySem.W.fnOf "_law_numbers" "_law_numbers" (defArgs s_l_numbers) (defBody s_l_numbers) (defScope s_l_numbers) .none kV_l_numbers dc_l_numbers pm_l_numbers an_l_numbers cd_l_numbers ct_l_numbers), sl_l_numbers⟩)
    (c_l_numbers : PySem.W.codeIn K cd_l_numbers "_law_numbers" = true)
    (k_l_numbers : PySem.W.keepIn K (.ref f_l_numbers) = true)
    (a_l_truths : PySem.W.nsIn K mainGlobals "_law_truths" = some (some (.ref f_l_truths)))
    (l_l_truths : K.lookup f_l_truths = some ⟨oc_l_truths, od_l_truths, .func (PySem.W.fnOf "_law_truths" "_law_truths" (defArgs s_l_truths) (defBody s_l_truths) (defScope s_l_truths) .none kV_l_truths dc_l_truths pm_l_truths an_l_truths cd_l_truths ct_l_truths), sl_l_truths⟩)
    (c_l_truths : PySem.W.codeIn K cd_l_truths "_law_truths" = true)
    (k_l_truths : PySem.W.keepIn K (.ref f_l_truths) = true)
    (a_l_house_is : PySem.W.nsIn K mainGlobals "_law_house_is" = some (some (.ref f_l_house_is)))
    (l_l_house_is : K.lookup f_l_house_is = some ⟨oc_l_house_is, od_l_house_is, .func (PySem.W.fnOf "_law_house_is" "_law_house_is" (defArgs s_l_house_is) (defBody s_l_house_is) (defScope s_l_house_is) .none kV_l_house_is dc_l_house_is pm_l_house_is an_l_house_is cd_l_house_is ct_l_house_is), sl_l_house_is⟩)
    (c_l_house_is : PySem.W.codeIn K cd_l_house_is "_law_house_is" = true)
    (k_l_house_is : PySem.W.keepIn K (.ref f_l_house_is) = true)
    (a_l_stands_under : PySem.W.nsIn K mainGlobals "_law_stands_under" = some (some (.ref f_l_stands_under)))
    (l_l_stands_under : K.lookup f_l_stands_under = some ⟨oc_l_stands_under, od_l_stands_under, .func (PySem.W.fnOf "_law_stands_under" "_law_stands_under" (defArgs s_l_stands_under) (defBody s_l_stands_under) (defScope s_l_stands_under) .none kV_l_stands_under dc_l_stands_under pm_l_stands_under an_l_stands_under cd_l_stands_under ct_l_stands_under), sl_l_stands_under⟩)
    (c_l_stands_under : PySem.W.codeIn K cd_l_stands_under "_law_stands_under" = true)
    (k_l_stands_under : PySem.W.keepIn K (.ref f_l_stands_under) = true)
    (a_l_mixture : PySem.W.nsIn K mainGlobals "_law_mixture" = some (some (.ref f_l_mixture)))
    (l_l_mixture : K.lookup f_l_mixture = some ⟨oc_l_mixture, od_l_mixture, .func (PySem.W.fnOf "_law_mixture" "_law_mixture" (defArgs s_l_mixture) (defBody s_l_mixture) (defScope s_l_mixture) .none kV_l_mixture dc_l_mixture pm_l_mixture an_l_mixture cd_l_mixture ct_l_mixture), sl_l_mixture⟩)
    (c_l_mixture : PySem.W.codeIn K cd_l_mixture "_law_mixture" = true)
    (k_l_mixture : PySem.W.keepIn K (.ref f_l_mixture) = true)
    (a_l_name : PySem.W.nsIn K mainGlobals "_law_name" = some (some (.ref f_l_name)))
    (l_l_name : K.lookup f_l_name = some ⟨oc_l_name, od_l_name, .func (PySem.W.fnOf "_law_name" "_law_name" (defArgs s_l_name) (defBody s_l_name) (defScope s_l_name) .none kV_l_name dc_l_name pm_l_name an_l_name cd_l_name ct_l_name), sl_l_name⟩)
    (c_l_name : PySem.W.codeIn K cd_l_name "_law_name" = true)
    (k_l_name : PySem.W.keepIn K (.ref f_l_name) = true)
    (a_law : PySem.W.nsIn K mainGlobals "law" = some (some (.ref f_law)))
    (l_law : K.lookup f_law = some ⟨oc_law, od_law, .func (PySem.W.fnOf "law" "law" (defArgs s_law) (defBody s_law) (defScope s_law) .none kV_law dc_law pm_law an_law cd_law ct_law), sl_law⟩)
    (c_law : PySem.W.codeIn K cd_law "law" = true)
    (k_law : PySem.W.keepIn K (.ref f_law) = true)
    : ∃ t, Txt K mg t :=
  ⟨{ C_House := C_House, C_HouseError := C_HouseError, C_BadHouse := C_BadHouse, C_OtherDoors := C_OtherDoors, C_TooGreat := C_TooGreat, f_check_doors := f_check_doors, fd_check_doors := PySem.W.fnOf "check_doors" "check_doors" (defArgs s_check_doors) (defBody s_check_doors) (defScope s_check_doors) .none kV_check_doors dc_check_doors pm_check_doors an_check_doors cd_check_doors ct_check_doors, f_check_house := f_check_house, fd_check_house := PySem.W.fnOf "check_house" "check_house" (defArgs s_check_house) (defBody s_check_house) (defScope s_check_house) .none kV_check_house dc_check_house pm_check_house an_check_house cd_check_house ct_check_house, f_House_init := f_House_init, fd_House_init := PySem.W.fnOf "__init__" "House.__init__" (defArgs s_House_init) (defBody s_House_init) (defScope s_House_init) .none kV_House_init dc_House_init pm_House_init an_House_init cd_House_init ct_House_init, f_House_rooms := f_House_rooms, fd_House_rooms := PySem.W.fnOf "rooms" "House.rooms" (defArgs s_House_rooms) (defBody s_House_rooms) (defScope s_House_rooms) .none kV_House_rooms dc_House_rooms pm_House_rooms an_House_rooms cd_House_rooms ct_House_rooms, f_check_same_doors := f_check_same_doors, fd_check_same_doors := PySem.W.fnOf "check_same_doors" "check_same_doors" (defArgs s_check_same_doors) (defBody s_check_same_doors) (defScope s_check_same_doors) .none kV_check_same_doors dc_check_same_doors pm_check_same_doors an_check_same_doors cd_check_same_doors ct_check_same_doors, f_pairs_ahead := f_pairs_ahead, fd_pairs_ahead := PySem.W.fnOf "pairs_ahead" "pairs_ahead" (defArgs s_pairs_ahead) (defBody s_pairs_ahead) (defScope s_pairs_ahead) .none kV_pairs_ahead dc_pairs_ahead pm_pairs_ahead an_pairs_ahead cd_pairs_ahead ct_pairs_ahead, f_numbers_of_pairs := f_numbers_of_pairs, fd_numbers_of_pairs := PySem.W.fnOf "numbers_of_pairs" "numbers_of_pairs" (defArgs s_numbers_of_pairs) (defBody s_numbers_of_pairs) (defScope s_numbers_of_pairs) .none kV_numbers_of_pairs dc_numbers_of_pairs pm_numbers_of_pairs an_numbers_of_pairs cd_numbers_of_pairs ct_numbers_of_pairs, f_truth_of := f_truth_of, fd_truth_of := PySem.W.fnOf "truth_of" "truth_of" (defArgs s_truth_of) (defBody s_truth_of) (defScope s_truth_of) .none kV_truth_of dc_truth_of pm_truth_of an_truth_of cd_truth_of ct_truth_of, f_mixed := f_mixed, fd_mixed := PySem.W.fnOf "mixed" "mixed" (defArgs s_mixed) (defBody s_mixed) (defScope s_mixed) .none kV_mixed dc_mixed pm_mixed an_mixed cd_mixed ct_mixed, f_l_cell_at := f_l_cell_at, fd_l_cell_at := PySem.W.fnOf "_law_cell_at" "_law_cell_at" (defArgs s_l_cell_at) (defBody s_l_cell_at) (defScope s_l_cell_at) .none kV_l_cell_at dc_l_cell_at pm_l_cell_at an_l_cell_at cd_l_cell_at ct_l_cell_at, f_l_draw := f_l_draw, fd_l_draw := PySem.W.fnOf "_law_draw" "_law_draw" (defArgs s_l_draw) (defBody s_l_draw) (defScope s_l_draw) .none kV_l_draw dc_l_draw pm_l_draw an_l_draw cd_l_draw ct_l_draw, f_l_ways_by := f_l_ways_by, fd_l_ways_by := PySem.W.fnOf "_law_ways_by" "_law_ways_by" (defArgs s_l_ways_by) (defBody s_l_ways_by) (defScope s_l_ways_by) .none kV_l_ways_by dc_l_ways_by pm_l_ways_by an_l_ways_by cd_l_ways_by ct_l_ways_by, f_l_lamps_by := f_l_lamps_by, fd_l_lamps_by := PySem.W.fnOf "_law_lamps_by" "_law_lamps_by" (defArgs s_l_lamps_by) (defBody s_l_lamps_by) (defScope s_l_lamps_by) .none kV_l_lamps_by dc_l_lamps_by pm_l_lamps_by an_l_lamps_by cd_l_lamps_by ct_l_lamps_by, f_l_whole := f_l_whole, fd_l_whole := PySem.W.fnOf "_law_whole" "_law_whole" (defArgs s_l_whole) (defBody s_l_whole) (defScope s_l_whole) .none kV_l_whole dc_l_whole pm_l_whole an_l_whole cd_l_whole ct_l_whole, f_l_numbers := f_l_numbers, fd_l_numbers := PySem.W.fnOf "_law_numbers" "_law_numbers" (defArgs s_l_numbers) (defBody s_l_numbers) (defScope s_l_numbers) .none kV_l_numbers dc_l_numbers pm_l_numbers an_l_numbers cd_l_numbers ct_l_numbers, f_l_truths := f_l_truths, fd_l_truths := PySem.W.fnOf "_law_truths" "_law_truths" (defArgs s_l_truths) (defBody s_l_truths) (defScope s_l_truths) .none kV_l_truths dc_l_truths pm_l_truths an_l_truths cd_l_truths ct_l_truths, f_l_house_is := f_l_house_is, fd_l_house_is := PySem.W.fnOf "_law_house_is" "_law_house_is" (defArgs s_l_house_is) (defBody s_l_house_is) (defScope s_l_house_is) .none kV_l_house_is dc_l_house_is pm_l_house_is an_l_house_is cd_l_house_is ct_l_house_is, f_l_stands_under := f_l_stands_under, fd_l_stands_under := PySem.W.fnOf "_law_stands_under" "_law_stands_under" (defArgs s_l_stands_under) (defBody s_l_stands_under) (defScope s_l_stands_under) .none kV_l_stands_under dc_l_stands_under pm_l_stands_under an_l_stands_under cd_l_stands_under ct_l_stands_under, f_l_mixture := f_l_mixture, fd_l_mixture := PySem.W.fnOf "_law_mixture" "_law_mixture" (defArgs s_l_mixture) (defBody s_l_mixture) (defScope s_l_mixture) .none kV_l_mixture dc_l_mixture pm_l_mixture an_l_mixture cd_l_mixture ct_l_mixture, f_l_name := f_l_name, fd_l_name := PySem.W.fnOf "_law_name" "_law_name" (defArgs s_l_name) (defBody s_l_name) (defScope s_l_name) .none kV_l_name dc_l_name pm_l_name an_l_name cd_l_name ct_l_name, f_law := f_law, fd_law := PySem.W.fnOf "law" "law" (defArgs s_law) (defBody s_law) (defScope s_law) .none kV_law dc_law pm_law an_law cd_law ct_law },
   ⟨PySem.W.mg_none_of X G z_len, PySem.W.mg_none_of X G z_range, PySem.W.mg_none_of X G z_isinstance, PySem.W.mg_none_of X G z_list, PySem.W.mg_none_of X G z_int, PySem.W.mg_none_of X G z_bool, PySem.W.mg_none_of X G z_enumerate, PySem.W.mg_none_of X G z_ValueError, PySem.W.mg_none_of X G z_zip, ⟨_, PySem.W.mg_of X G c_MOST_DOORS⟩, ⟨_, PySem.W.mg_of X G c_MOST_ROOMS⟩, PySem.W.mg_of X G a_House, ⟨pg_House, hd_House, po_House, sa_House⟩, tc_House, tm_House, n_House_doors, n_House_ways, n_House_lamps, PySem.W.mg_of X G a_HouseError, ⟨⟨a_HouseError, x_HouseError⟩, g1_HouseError, g2_HouseError, g3_HouseError, g4_HouseError⟩, g4_HouseError, ty_HouseError, mv_HouseError, ms_HouseError, PySem.W.mg_of X G a_BadHouse, ⟨⟨a_BadHouse, x_BadHouse⟩, g1_BadHouse, g2_BadHouse, g3_BadHouse, g4_BadHouse⟩, g4_BadHouse, ty_BadHouse, mv_BadHouse, ms_BadHouse, PySem.W.mg_of X G a_OtherDoors, ⟨⟨a_OtherDoors, x_OtherDoors⟩, g1_OtherDoors, g2_OtherDoors, g3_OtherDoors, g4_OtherDoors⟩, g4_OtherDoors, ty_OtherDoors, mv_OtherDoors, ms_OtherDoors, PySem.W.mg_of X G a_TooGreat, ⟨⟨a_TooGreat, x_TooGreat⟩, g1_TooGreat, g2_TooGreat, g3_TooGreat, g4_TooGreat⟩, g4_TooGreat, ty_TooGreat, mv_TooGreat, ms_TooGreat, mb_HouseError, mb_BadHouse, mb_OtherDoors, mb_TooGreat, mr_OtherDoors_HouseError, mr_HouseError_OtherDoors, mr_TooGreat_HouseError, mr_HouseError_TooGreat, mr_OtherDoors_TooGreat, mr_TooGreat_OtherDoors, mr_OtherDoors_BadHouse, mr_TooGreat_BadHouse, tg, tt, PySem.W.mg_of X G a_check_doors, fun_mk (st := s_check_doors) l_check_doors c_check_doors k_check_doors, PySem.W.mg_of X G a_check_house, fun_mk (st := s_check_house) l_check_house c_check_house k_check_house, fun_mk (st := s_House_init) l_House_init c_House_init k_House_init, ⟨mk_House, a_House_init, i_House_init, kc_House⟩, fun_mk (st := s_House_rooms) l_House_rooms c_House_rooms k_House_rooms, ⟨a_House_rooms, i_House_rooms, k_House_rooms⟩, PySem.W.mg_of X G a_check_same_doors, fun_mk (st := s_check_same_doors) l_check_same_doors c_check_same_doors k_check_same_doors, PySem.W.mg_of X G a_pairs_ahead, fun_mk (st := s_pairs_ahead) l_pairs_ahead c_pairs_ahead k_pairs_ahead, PySem.W.mg_of X G a_numbers_of_pairs, fun_mk (st := s_numbers_of_pairs) l_numbers_of_pairs c_numbers_of_pairs k_numbers_of_pairs, PySem.W.mg_of X G a_truth_of, fun_mk (st := s_truth_of) l_truth_of c_truth_of k_truth_of, PySem.W.mg_of X G a_mixed, fun_mk (st := s_mixed) l_mixed c_mixed k_mixed, PySem.W.mg_of X G a_l_cell_at, fun_mk (st := s_l_cell_at) l_l_cell_at c_l_cell_at k_l_cell_at, PySem.W.mg_of X G a_l_draw, fun_mk (st := s_l_draw) l_l_draw c_l_draw k_l_draw, PySem.W.mg_of X G a_l_ways_by, fun_mk (st := s_l_ways_by) l_l_ways_by c_l_ways_by k_l_ways_by, PySem.W.mg_of X G a_l_lamps_by, fun_mk (st := s_l_lamps_by) l_l_lamps_by c_l_lamps_by k_l_lamps_by, PySem.W.mg_of X G a_l_whole, fun_mk (st := s_l_whole) l_l_whole c_l_whole k_l_whole, PySem.W.mg_of X G a_l_numbers, fun_mk (st := s_l_numbers) l_l_numbers c_l_numbers k_l_numbers, PySem.W.mg_of X G a_l_truths, fun_mk (st := s_l_truths) l_l_truths c_l_truths k_l_truths, PySem.W.mg_of X G a_l_house_is, fun_mk (st := s_l_house_is) l_l_house_is c_l_house_is k_l_house_is, PySem.W.mg_of X G a_l_stands_under, fun_mk (st := s_l_stands_under) l_l_stands_under c_l_stands_under k_l_stands_under, PySem.W.mg_of X G a_l_mixture, fun_mk (st := s_l_mixture) l_l_mixture c_l_mixture k_l_mixture, PySem.W.mg_of X G a_l_name, fun_mk (st := s_l_name) l_l_name c_l_name k_l_name, PySem.W.mg_of X G a_law, fun_mk (st := s_law) l_law c_law k_law⟩⟩
end My
open PySem PySem.W PyProof.Rows
def _root_.PySem.W.Fast.tw7962656812683445245 : Unit := ()
def _root_.PySem.W.Fast.tw5225429761719223177 : Unit := ()
def _root_.PySem.W.Fast.tw6878775439182284199 : Unit := ()
def _root_.PySem.W.Fast.tw12883472846634227115 : Unit := ()
def _root_.PySem.W.Fast.tw4287448879831127512 : Unit := ()
def _root_.PySem.W.Fast.tw10564009634803188989 : Unit := ()
def _root_.PySem.W.Fast.tw10413599772290628679 : Unit := ()
def _root_.PySem.W.Fast.tw7593388567413887219 : Unit := ()
def _root_.PySem.W.Fast.tw3827732287402492159 : Unit := ()
def _root_.PySem.W.Fast.tw4641268474824405627 : Unit := ()
def _root_.PySem.W.Fast.tw13621379496248237233 : Unit := ()
def _root_.PySem.W.Fast.tw9422507712948954418 : Unit := ()
def _root_.PySem.W.Fast.tw3036290027546854119 : Unit := ()
def _root_.PySem.W.Fast.tw1854276300546394787 : Unit := ()
def _root_.PySem.W.Fast.tw6550104589980813763 : Unit := ()
def _root_.PySem.W.Fast.tw7561086496154209228 : Unit := ()
def _root_.PySem.W.Fast.tw6495549234583928924 : Unit := ()
def _root_.PySem.W.Fast.tw11114164993279141614 : Unit := ()
def _root_.PySem.W.Fast.tw7889077036249606291 : Unit := ()
def _root_.PySem.W.Fast.tw17498030216862963008 : Unit := ()
def _root_.PySem.W.Fast.tw10398202689479994731 : Unit := ()
def _root_.PySem.W.Fast.tw4817140706173353456 : Unit := ()
def _root_.PySem.W.Fast.tw10600063557908558682 : Unit := ()
def _root_.PySem.W.Fast.tw18391482202741820298 : Unit := ()
def _root_.PySem.W.Fast.tw6694647475348371165 : Unit := ()
def _root_.PySem.W.Fast.tw213020236181840551 : Unit := ()
def _root_.PySem.W.Fast.tw6597680627082921779 : Unit := ()
def _root_.PySem.W.Fast.tw10186702645885535842 : Unit := ()
def _root_.PySem.W.Fast.tw14630124220739557725 : Unit := ()
def _root_.PySem.W.Fast.tw8941393126421932370 : Unit := ()
def _root_.PySem.W.Fast.tw4118261625994559339 : Unit := ()
def _root_.PySem.W.Fast.tw10550265480025850966 : Unit := ()
def _root_.PySem.W.Fast.tw17555233877204802904 : Unit := ()
def _root_.PySem.W.Fast.tw14254602257591628026 : Unit := ()
def _root_.PySem.W.Fast.tw1791913929343507235 : Unit := ()
def _root_.PySem.W.Fast.tw1559642861790803319 : Unit := ()
def _root_.PySem.W.Fast.tw6002450833686957268 : Unit := ()
def _root_.PySem.W.Fast.tw8067623862036039448 : Unit := ()
def _root_.PySem.W.Fast.tw8146987804589123782 : Unit := ()
def _root_.PySem.W.Fast.tw10857777007133376458 : Unit := ()
def _root_.PySem.W.Fast.tw5004028785686528252 : Unit := ()
def _root_.PySem.W.Fast.tw9633840981357099962 : Unit := ()
def _root_.PySem.W.Fast.tw3022021785852747783 : Unit := ()
def _root_.PySem.W.Fast.tw7494009039031884214 : Unit := ()
def _root_.PySem.W.Fast.tw6633278817686281905 : Unit := ()
def _root_.PySem.W.Fast.tw11465793007515987048 : Unit := ()
def _root_.PySem.W.Fast.tw6949597040480397746 : Unit := ()
def _root_.PySem.W.Fast.tw3980528741865863442 : Unit := ()
def _root_.PySem.W.Fast.tw16933139747322774797 : Unit := ()
def _root_.PySem.W.Fast.tw16211639397415632063 : Unit := ()
def _root_.PySem.W.Fast.tw11534942209822950264 : Unit := ()
def _root_.PySem.W.Fast.tw17940893329741173216 : Unit := ()
def _root_.PySem.W.Fast.tw1948787188387376891 : Unit := ()
def _root_.PySem.W.Fast.tw10194787307089423436 : Unit := ()
def _root_.PySem.W.Fast.tw11590811644710829869 : Unit := ()
def _root_.PySem.W.Fast.tw9234828053596089464 : Unit := ()
def _root_.PySem.W.Fast.tw11169536492715655346 : Unit := ()
def _root_.PySem.W.Fast.tw16088785000488296923 : Unit := ()
def _root_.PySem.W.Fast.tw2277324292318557828 : Unit := ()
def _root_.PySem.W.Fast.tw12914480362985367131 : Unit := ()
set_option maxRecDepth 100000 in
set_option maxHeartbeats 0 in
theorem PySem.Challenge.cw_askhouse_k10_mixtures_holds : PySem.Challenge.rw_askhouse_k10_mixtures.Holds := by
  w_on; o_law; k_head; (case hw => w_witness2)
  k_fill
  refine L2.walk_ofK (l := PySem.Challenge.rw_askhouse_k10_mixtures) (n := 63) (k := 8) (x := "script") (CX := L2.CX0) (sp := fun K => My.sp_law K) rfl (by decide) rfl ⟨rfl, by decide, by decide⟩ (fun w h Y => PySem.W.kIn_of Y) ?F ?S ?C
  case F =>
    intro w mg fa h KX G hmg
    have T : ∃ t, My.Txt (L2.KOf KX) mg t := by
      dsimp only [L2.KOf]
      refine' My.txt_mk KX G ?z_len ?z_range ?z_isinstance ?z_list ?z_int ?z_bool ?z_enumerate ?z_ValueError ?z_zip ?c_MOST_DOORS ?c_MOST_ROOMS ?a_House ?pg_House ?hd_House ?po_House ?sa_House ?mk_House ?kc_House ?tc_House ?tm_House ?n_House_doors ?n_House_ways ?n_House_lamps ?a_HouseError ?x_HouseError ?g1_HouseError ?g2_HouseError ?g3_HouseError ?g4_HouseError ?ty_HouseError ?mv_HouseError ?ms_HouseError ?a_BadHouse ?x_BadHouse ?g1_BadHouse ?g2_BadHouse ?g3_BadHouse ?g4_BadHouse ?ty_BadHouse ?mv_BadHouse ?ms_BadHouse ?a_OtherDoors ?x_OtherDoors ?g1_OtherDoors ?g2_OtherDoors ?g3_OtherDoors ?g4_OtherDoors ?ty_OtherDoors ?mv_OtherDoors ?ms_OtherDoors ?a_TooGreat ?x_TooGreat ?g1_TooGreat ?g2_TooGreat ?g3_TooGreat ?g4_TooGreat ?ty_TooGreat ?mv_TooGreat ?ms_TooGreat ?mb_HouseError ?mb_BadHouse ?mb_OtherDoors ?mb_TooGreat ?mr_OtherDoors_HouseError ?mr_HouseError_OtherDoors ?mr_TooGreat_HouseError ?mr_HouseError_TooGreat ?mr_OtherDoors_TooGreat ?mr_TooGreat_OtherDoors ?mr_OtherDoors_BadHouse ?mr_TooGreat_BadHouse ?tg ?tt ?a_check_doors ?l_check_doors ?c_check_doors ?k_check_doors ?a_check_house ?l_check_house ?c_check_house ?k_check_house ?a_House_init ?i_House_init ?l_House_init ?c_House_init ?k_House_init ?a_House_rooms ?i_House_rooms ?l_House_rooms ?c_House_rooms ?k_House_rooms ?a_check_same_doors ?l_check_same_doors ?c_check_same_doors ?k_check_same_doors ?a_pairs_ahead ?l_pairs_ahead ?c_pairs_ahead ?k_pairs_ahead ?a_numbers_of_pairs ?l_numbers_of_pairs ?c_numbers_of_pairs ?k_numbers_of_pairs ?a_truth_of ?l_truth_of ?c_truth_of ?k_truth_of ?a_mixed ?l_mixed ?c_mixed ?k_mixed ?a_l_cell_at ?l_l_cell_at ?c_l_cell_at ?k_l_cell_at ?a_l_draw ?l_l_draw ?c_l_draw ?k_l_draw ?a_l_ways_by ?l_l_ways_by ?c_l_ways_by ?k_l_ways_by ?a_l_lamps_by ?l_l_lamps_by ?c_l_lamps_by ?k_l_lamps_by ?a_l_whole ?l_l_whole ?c_l_whole ?k_l_whole ?a_l_numbers ?l_l_numbers ?c_l_numbers ?k_l_numbers ?a_l_truths ?l_l_truths ?c_l_truths ?k_l_truths ?a_l_house_is ?l_l_house_is ?c_l_house_is ?k_l_house_is ?a_l_stands_under ?l_l_stands_under ?c_l_stands_under ?k_l_stands_under ?a_l_mixture ?l_l_mixture ?c_l_mixture ?k_l_mixture ?a_l_name ?l_l_name ?c_l_name ?k_l_name ?a_law ?l_law ?c_law ?k_law
      (case z_len => k_is)
      (case z_range => k_is)
      (case z_isinstance => k_is)
      (case z_list => k_is)
      (case z_int => k_is)
      (case z_bool => k_is)
      (case z_enumerate => k_is)
      (case z_ValueError => k_is)
      (case z_zip => k_is)
      (case c_MOST_DOORS => k_is)
      (case c_MOST_ROOMS => k_is)
      (case a_House => k_is)
      (case pg_House => k_is)
      (case hd_House => k_is)
      (case po_House => k_is)
      (case sa_House => k_is)
      (case mk_House => k_is)
      (case kc_House => k_is)
      (case tc_House => k_is)
      (case tm_House => k_is)
      (case n_House_doors => k_is)
      (case n_House_ways => k_is)
      (case n_House_lamps => k_is)
      (case a_HouseError => k_is)
      (case x_HouseError => k_exc)
      (case g1_HouseError => k_is)
      (case g2_HouseError => k_is)
      (case g3_HouseError => k_is)
      (case g4_HouseError => k_is)
      (case ty_HouseError => k_is)
      (case mv_HouseError => k_is)
      (case ms_HouseError => k_is)
      (case a_BadHouse => k_is)
      (case x_BadHouse => k_exc)
      (case g1_BadHouse => k_is)
      (case g2_BadHouse => k_is)
      (case g3_BadHouse => k_is)
      (case g4_BadHouse => k_is)
      (case ty_BadHouse => k_is)
      (case mv_BadHouse => k_is)
      (case ms_BadHouse => k_is)
      (case a_OtherDoors => k_is)
      (case x_OtherDoors => k_exc)
      (case g1_OtherDoors => k_is)
      (case g2_OtherDoors => k_is)
      (case g3_OtherDoors => k_is)
      (case g4_OtherDoors => k_is)
      (case ty_OtherDoors => k_is)
      (case mv_OtherDoors => k_is)
      (case ms_OtherDoors => k_is)
      (case a_TooGreat => k_is)
      (case x_TooGreat => k_exc)
      (case g1_TooGreat => k_is)
      (case g2_TooGreat => k_is)
      (case g3_TooGreat => k_is)
      (case g4_TooGreat => k_is)
      (case ty_TooGreat => k_is)
      (case mv_TooGreat => k_is)
      (case ms_TooGreat => k_is)
      (case mb_HouseError => k_is)
      (case mb_BadHouse => k_is)
      (case mb_OtherDoors => k_is)
      (case mb_TooGreat => k_is)
      (case mr_OtherDoors_HouseError => k_is)
      (case mr_HouseError_OtherDoors => k_is)
      (case mr_TooGreat_HouseError => k_is)
      (case mr_HouseError_TooGreat => k_is)
      (case mr_OtherDoors_TooGreat => k_is)
      (case mr_TooGreat_OtherDoors => k_is)
      (case mr_OtherDoors_BadHouse => k_is)
      (case mr_TooGreat_BadHouse => k_is)
      (case tg => k_is)
      (case tt => k_is)
      (case a_check_doors => k_is)
      (case l_check_doors => k_is)
      (case c_check_doors => k_is)
      (case k_check_doors => k_is)
      (case a_check_house => k_is)
      (case l_check_house => k_is)
      (case c_check_house => k_is)
      (case k_check_house => k_is)
      (case a_House_init => k_is)
      (case i_House_init => k_is)
      (case l_House_init => k_is)
      (case c_House_init => k_is)
      (case k_House_init => k_is)
      (case a_House_rooms => k_is)
      (case i_House_rooms => k_is)
      (case l_House_rooms => k_is)
      (case c_House_rooms => k_is)
      (case k_House_rooms => k_is)
      (case a_check_same_doors => k_is)
      (case l_check_same_doors => k_is)
      (case c_check_same_doors => k_is)
      (case k_check_same_doors => k_is)
      (case a_pairs_ahead => k_is)
      (case l_pairs_ahead => k_is)
      (case c_pairs_ahead => k_is)
      (case k_pairs_ahead => k_is)
      (case a_numbers_of_pairs => k_is)
      (case l_numbers_of_pairs => k_is)
      (case c_numbers_of_pairs => k_is)
      (case k_numbers_of_pairs => k_is)
      (case a_truth_of => k_is)
      (case l_truth_of => k_is)
      (case c_truth_of => k_is)
      (case k_truth_of => k_is)
      (case a_mixed => k_is)
      (case l_mixed => k_is)
      (case c_mixed => k_is)
      (case k_mixed => k_is)
      (case a_l_cell_at => k_is)
      (case l_l_cell_at => k_is)
      (case c_l_cell_at => k_is)
      (case k_l_cell_at => k_is)
      (case a_l_draw => k_is)
      (case l_l_draw => k_is)
      (case c_l_draw => k_is)
      (case k_l_draw => k_is)
      (case a_l_ways_by => k_is)
      (case l_l_ways_by => k_is)
      (case c_l_ways_by => k_is)
      (case k_l_ways_by => k_is)
      (case a_l_lamps_by => k_is)
      (case l_l_lamps_by => k_is)
      (case c_l_lamps_by => k_is)
      (case k_l_lamps_by => k_is)
      (case a_l_whole => k_is)
      (case l_l_whole => k_is)
      (case c_l_whole => k_is)
      (case k_l_whole => k_is)
      (case a_l_numbers => k_is)
      (case l_l_numbers => k_is)
      (case c_l_numbers => k_is)
      (case k_l_numbers => k_is)
      (case a_l_truths => k_is)
      (case l_l_truths => k_is)
      (case c_l_truths => k_is)
      (case k_l_truths => k_is)
      (case a_l_house_is => k_is)
      (case l_l_house_is => k_is)
      (case c_l_house_is => k_is)
      (case k_l_house_is => k_is)
      (case a_l_stands_under => k_is)
      (case l_l_stands_under => k_is)
      (case c_l_stands_under => k_is)
      (case k_l_stands_under => k_is)
      (case a_l_mixture => k_is)
      (case l_l_mixture => k_is)
      (case c_l_mixture => k_is)
      (case k_l_mixture => k_is)
      (case a_l_name => k_is)
      (case l_l_name => k_is)
      (case c_l_name => k_is)
      (case k_l_name => k_is)
      (case a_law => k_is)
      (case l_law => k_is)
      (case c_law => k_is)
      (case k_law => k_is)
    obtain ⟨t, T⟩ := T
    have e0 := hmg.symm.trans T.mg_law
    cases e0
    refine' ⟨t.fd_law, ?b, fun base kb nb => My.ok_law T⟩
    obtain ⟨oc, od, kV, doc, pm, an, cdv, ct, osl, e, _, _⟩ := T.F_law.ex
    rw [e]
    exact fun s u => .of_eq rfl
  case S => exact fun K H a ns hl hO hS => ⟨a, ns, rfl, hS, hl, fun _ => rfl⟩
  case C => exact fun _ _ _ _ h => h
#print axioms PySem.Challenge.cw_askhouse_k10_mixtures_holds
