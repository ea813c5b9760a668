import PyProof.Rows.All
import Wide.All
import OpenK.AllK
import Wide.FinOn
import Lean
import PyProof.EqAt
import PyProof.EqKinds
import PyProof.TupleCall
import PyProof.Draws
import PySem.Challenge.RW_askhouse_k06_rooms_apart
set_option Elab.async false
set_option linter.all false
set_option maxRecDepth 100000
/-! THE HAND LAYER, for ints, bools, texts, own classes, LISTS and tuples (index, slices, in, append, pop ..), calls, loops. Paste it whole ahead of your own text; what your proof does not reach may be deleted. -/
namespace L2
open PySem PySem.Spec PyProof.Rows

/-- a key: an int or a str -/
abbrev Key := Sum Int Str
def keyIs : Key → Value → Bool
  | .inl k, v => Value.isInt k v
  | .inr x, v => Value.isStrOf x v
def keyH (w : World) : Key → Int
  | .inl k => hashInt k
  | .inr x => hashStr w x
theorem keyIs_shape : ∀ {k : Key} {v : Value}, keyIs k v = true → (∃ i t, k = Sum.inl i ∧ v = Value.int i t) ∨ (∃ x t, k = Sum.inr x ∧ v = Value.str x t)
  | .inl i, v, h => by
    obtain ⟨t, e⟩ := Value.isInt_shape (k := i) (v := v) h
    exact .inl ⟨i, t, rfl, e⟩
  | .inr x, v, h => by
    obtain ⟨t, e⟩ := Value.isStrOf_shape (x := x) (v := v) h
    exact .inr ⟨x, t, rfl, e⟩
theorem keyIs_int (i : Int) (t : Tok) : keyIs (.inl i) (.int i t) = true := by simp [keyIs, Value.isInt]
theorem keyIs_str (x : Str) (t : Tok) : keyIs (.inr x) (.str x t) = true := by simp [keyIs, Value.isStrOf]
theorem key_ll (a b : Int) : decide ((Sum.inl a : Key) = Sum.inl b) = (a == b) := by
  by_cases e : a = b
  · subst e; simp
  · have h : ¬ (Sum.inl a : Key) = Sum.inl b := fun q => e (Sum.inl.inj q)
    rw [decide_eq_false h]
    exact (beq_eq_false_iff_ne.mpr e).symm
theorem key_rr (a b : Str) : decide ((Sum.inr a : Key) = Sum.inr b) = decide (a = b) := by
  by_cases e : a = b
  · subst e; simp
  · have h : ¬ (Sum.inr a : Key) = Sum.inr b := fun q => e (Sum.inr.inj q)
    rw [decide_eq_false h, decide_eq_false e]
theorem key_lr (a : Int) (b : Str) : decide ((Sum.inl a : Key) = Sum.inr b) = false := decide_eq_false (fun q => nomatch q)
theorem key_rl (a : Str) (b : Int) : decide ((Sum.inr a : Key) = Sum.inl b) = false := decide_eq_false (fun q => nomatch q)

def mixKind (prog : Program) (w : World) : PySem.KeyKind prog w Key where
  is := keyIs
  hash := keyH w
  inj := fun v a b ha hb => by
    rcases keyIs_shape ha with ⟨i, t, rfl, rfl⟩ | ⟨x, t, rfl, rfl⟩
    · rcases keyIs_shape hb with ⟨j, u, rfl, e⟩ | ⟨y, u, rfl, e⟩
      · injection e with e1 _; rw [e1]
      · exact nomatch e
    · rcases keyIs_shape hb with ⟨j, u, rfl, e⟩ | ⟨y, u, rfl, e⟩
      · exact nomatch e
      · injection e with e1 _; rw [e1]
  byValue := fun k v h => by
    rcases keyIs_shape h with ⟨i, t, rfl, rfl⟩ | ⟨x, t, rfl, rfl⟩ <;> rfl
  pyHash := fun hv h => by
    rcases keyIs_shape hv with ⟨i, t, rfl, rfl⟩ | ⟨x, t, rfl, rfl⟩
    · exact wpAny_pyHash_int h
    · exact wpAny_pyHash_str h
  eqBool := fun hu hv h => by
    rcases keyIs_shape hu with ⟨i, t, rfl, rfl⟩ | ⟨x, t, rfl, rfl⟩
    · rcases keyIs_shape hv with ⟨j, u, rfl, rfl⟩ | ⟨y, u, rfl, rfl⟩
      · rw [key_ll] at h; exact wpAny_eqBool_int h
      · rw [key_lr] at h; exact SeqAt.EqAt.int_str i t y u _ _ _ _ h
    · rcases keyIs_shape hv with ⟨j, u, rfl, rfl⟩ | ⟨y, u, rfl, rfl⟩
      · rw [key_rl] at h; exact SeqAt.EqAt.str_int x t j u _ _ _ _ h
      · rw [key_rr] at h; exact wpAny_eqBool_str h
  «strs» := fun k x t v h => by
    rcases keyIs_shape h with ⟨i, u, rfl, e⟩ | ⟨y, u, rfl, e⟩
    · exact nomatch e
    · injection e with e1 _
      subst e1
      cases v <;> rfl

theorem mixKind_int (prog : Program) (w : World) (i : Int) (t : Tok) : (mixKind prog w).is (.inl i) (.int i t) = true := keyIs_int i t
theorem mixKind_str (prog : Program) (w : World) (x : Str) (t : Tok) : (mixKind prog w).is (.inr x) (.str x t) = true := keyIs_str x t
end L2

namespace L2
open PySem PySem.Spec PyProof.Rows

/-- a value, without the heap -/
inductive V where
  | non | bl (b : Bool) | int (i : Int) | str (x : Str) | byt (b : Array UInt8) | flt (b : UInt64) | ref (a : Addr) | ty (n : String)
  deriving DecidableEq

def RelV : V → Value → Prop
  | .non, u => u = Value.none
  | .bl b, u => u = Value.bool b
  | .int i, u => ∃ t, u = Value.int i t
  | .str x, u => ∃ t, u = Value.str x t
  | .byt b, u => ∃ t, u = Value.bytes b t
  | .flt b, u => ∃ t, u = Value.float b t
  | .ref a, u => u = Value.ref a
  | .ty n, u => u = Value.type n

abbrev Vals : List V → List Value → Prop := Paired RelV
theorem Vals.length {xs : List V} {us : List Value} (r : Vals xs us) : xs.length = us.length := Paired.length r
theorem Vals.get : ∀ {xs : List V} {us : List Value} {i : Nat} {x : V}, Vals xs us → xs[i]? = some x → ∃ u, us[i]? = some u ∧ RelV x u
  | _, _, _, _, .nil, e => by simp at e
  | _, _, 0, _, .cons r _, e => by simp at e; subst e; exact ⟨_, rfl, r⟩
  | _, _, i + 1, x, .cons _ t, e => by
    obtain ⟨u, h1, h2⟩ := Vals.get (i := i) (x := x) t (by simpa using e)
    exact ⟨u, by simpa using h1, h2⟩
theorem Vals.set {x : V} {u : Value} (r : RelV x u) : ∀ {xs : List V} {us : List Value} (i : Nat), Vals xs us → Vals (xs.set i x) (us.set i u)
  | _, _, _, .nil => .nil
  | _, _, 0, .cons _ t => .cons r t
  | _, _, i + 1, .cons q t => .cons q (Vals.set r i t)
theorem Vals.append : ∀ {xs ys : List V} {us ws : List Value}, Vals xs us → Vals ys ws → Vals (xs ++ ys) (us ++ ws)
  | _, _, _, _, .nil, s => s
  | _, _, _, _, .cons r t, s => .cons r (Vals.append t s)
def RelO : Option V → Option Value → Prop
  | some v, some u => RelV v u
  | none, none => True
  | _, _ => False
def KV {κ : Type} : List (κ × V) → List (κ × Value) → Prop := Paired fun (p : κ × V) (q : κ × Value) => p.1 = q.1 ∧ RelV p.2 q.2

/-- a key of a dict (00_mix): an int or a text -/
def kV : Key → V
  | .inl i => .int i
  | .inr x => .str x

/-- what stands at a tracked address -/
inductive HO where
  /-- a list -/
  | lst (xs : List V)
  /-- a tuple (never changes) -/
  | tup (xs : List V)
  /-- a dict whose keys are ints and texts; one whose keys are tuples of ints and texts (the empty one is both) -/
  | dK (kvs : List (Key × V)) | dT (kvs : List (List Key × V))
  /-- a set of ints: its members, its size -/
  | set (S : Int → Bool) (n : Nat)
  /-- an instance of the class at C, its dict at dx, its attributes -/
  | ins (C dx : Addr) (fs : List (Str × V))
  /-- the dict of the instance at x -/
  | own (x : Addr)
  /-- the dict of an exception -/
  | xd (fs : List (Str × V))
  /-- a bound method, f of x -/
  | met (f x : Addr)
  /-- a range object lo, lo + 1, .. below hi -/
  | rng (lo hi : Int)
  /-- a thing that is known to the object (the script; a dict while a loop walks it): read, never written while it is so -/
  | frz (o : Obj) (u : HO)
  /-- a code object's table -/
  | tbl (ps : Array Value)
  /-- any other thing, by what is true of its one object (a def of one's own: SetO a S n := HO.ext fun h => ..) -/
  | ext (φ : Heap → Prop)

abbrev Hp := Addr → Option HO
def upd (H : Hp) (a : Addr) (o : HO) : Hp := fun b => if b = a then some o else H b
theorem upd_same {H : Hp} {a : Addr} {o : HO} : upd H a o a = some o := by unfold upd; rw [if_pos rfl]
theorem upd_ne {H : Hp} {a b : Addr} {o : HO} (h : b ≠ a) : upd H a o b = H b := by unfold upd; rw [if_neg h]
theorem upd_upd {H : Hp} {a : Addr} {o u : HO} : upd (upd H a o) a u = upd H a u := by
  funext b; unfold upd; split <;> rfl
/-- two objects of different content stand apart -/
theorem ne_of {H : Hp} {a b : Addr} {o u : HO} (h : H a = some o) (h' : H b = some u) (d : o ≠ u) : a ≠ b := by
  intro e; subst e; rw [h] at h'; exact d (Option.some.inj h')
theorem ne_of_none {H : Hp} {a b : Addr} {o : HO} (h : H a = some o) (h' : H b = none) : a ≠ b := by
  intro e; subst e; rw [h] at h'; cases h'

section
variable (P : Program) (w : World)
def ObjOk (H : Hp) (h : Heap) (a : Addr) : HO → Prop
  | .lst xs => xs.length ≤ sizeLine ∧ ∃ (its : List Value) (n : Nat), Vals xs its ∧ h.get? a = some { cls := .type "list", data := .seq its.toArray n }
  | .tup xs => xs.length ≤ sizeLine ∧ ∃ its : List Value, Vals xs its ∧ IsTup h a its.toArray
  | .dK kvs => kvs.length ≤ sizeLine ∧ (a == sysModules) = false ∧ ∃ vs, KV kvs vs ∧ h.DictOf (mixKind P w) a vs
  | .dT kvs => kvs.length ≤ sizeLine ∧ (a == sysModules) = false ∧ ∃ xs : List (List Key × Addr × Value),
      Paired (fun (p : List Key × V) (q : List Key × Addr × Value) => p.1 = q.1 ∧ H q.2.1 = some (.tup (p.1.map kV)) ∧ RelV p.2 q.2.2) kvs xs ∧
      ∃ o es ep, h.get? a = some o ∧ o.ExactDict ∧ o.data = .dict es ep ∧ es.toList = xs.map (entryOfKey (tupleKind (mixKind P w))) ∧ (xs.map (·.1)).Nodup
  | .set S n => h.SetOf (intKind P w) a S n
  | .ins C dx fs => H dx = some (.own a) ∧ fs.length ≤ 1000 ∧ dx ≠ a ∧ h.get? a = some (PySem.W.instObj C dx) ∧
      ∃ mA, h.Ns1 dx mA ∧ (∀ f, RelO (fs.lookup f) (mA f)) ∧ PySem.Within mA (fs.map (·.1))
  | .own _ => ∃ o, h.get? a = some o
  | .xd fs => ∃ mA, h.Ns1 a mA ∧ ∀ f, RelO (fs.lookup f) (mA f)
  | .rng lo hi => ∃ t u v, h.get? a = some { cls := .type "range", data := .fields #[.int lo t, .int hi u, .int 1 v] }
  | .frz o u => h.get? a = some o ∧ ObjOk H h a u
  | .tbl ps => h.get? a = some { cls := .none, data := .fields ps }
  | .met f x => h.get? a = some (PySem.W.methodObj (.ref f) (.ref x))
  | .ext φ => φ h ∧ (∃ o, h.get? a = some o) ∧ ∀ h1 h2 : Heap, φ h1 → (∀ o, h1.get? a = some o → h2.get? a = some o) → φ h2
/-- the abstract heap is held -/
def HOk (H : Hp) (h : Heap) : Prop := ∀ a o, H a = some o → ObjOk P w H h a o
end

section
variable {P : Program} {w : World} {H H' : Hp} {h h' : Heap} {a : Addr} {o : HO}
theorem ObjOk.lt (x : ObjOk P w H h a o) : a < h.objs.size := by
  cases o with
  | lst xs => obtain ⟨_, _, _, _, e⟩ := x; exact Heap.lt_size e
  | tup xs => obtain ⟨_, _, _, p⟩ := x; exact p.lt
  | dK kvs => obtain ⟨_, _, _, _, o, _, _, e, _⟩ := x; exact Heap.lt_size e
  | dT kvs => obtain ⟨_, _, _, _, o, _, _, e, _⟩ := x; exact Heap.lt_size e
  | set S n => obtain ⟨o, _, _, _, e, _⟩ := x; exact Heap.lt_size e
  | ins C dx fs => obtain ⟨_, _, _, e, _⟩ := x; exact Heap.lt_size e
  | own y => obtain ⟨_, e⟩ := x; exact Heap.lt_size e
  | xd fs => obtain ⟨_, ⟨_, _, _, e, _⟩, _⟩ := x; exact Heap.lt_size e
  | rng lo hi => obtain ⟨_, _, _, e⟩ := x; exact Heap.lt_size e
  | frz ob u => obtain ⟨e, _⟩ := x; exact Heap.lt_size e
  | tbl ps => exact Heap.lt_size (show h.get? a = some _ from x)
  | met f y => exact Heap.lt_size (show h.get? a = some _ from x)
  | ext φ => obtain ⟨_, ⟨_, e⟩, _⟩ := x; exact Heap.lt_size e
theorem Paired.mapP {α β : Type} {F G : α → β → Prop} : ∀ {l₁ : List α} {l₂ : List β}, Paired F l₁ l₂ → (∀ a b, F a b → G a b) → Paired G l₁ l₂
  | _, _, .nil, _ => .nil
  | _, _, .cons r t, f => .cons (f _ _ r) (Paired.mapP t f)
/-- what an object's description leans on: its own object, its own dict, the tuples -/
theorem ObjOk.stay (x : ObjOk P w H h a o) (k : ∀ b u, (b = a ∨ H b = some (.own a)) → h.get? b = some u → h'.get? b = some u)
    (ho : ∀ b, H b = some (.own a) → H' b = some (.own a)) (ht : ∀ b xs, H b = some (.tup xs) → H' b = some (.tup xs)) : ObjOk P w H' h' a o := by
  induction o with
  | lst xs => obtain ⟨z, its, n, r, e⟩ := x; exact ⟨z, its, n, r, k _ _ (.inl rfl) e⟩
  | tup xs => obtain ⟨z, its, r, ob, e, c⟩ := x; exact ⟨z, its, r, ob, k _ _ (.inl rfl) e, c⟩
  | dK kvs => obtain ⟨z, y, vs, r, ob, es, ep, e, c⟩ := x; exact ⟨z, y, vs, r, ob, es, ep, k _ _ (.inl rfl) e, c⟩
  | dT kvs =>
    obtain ⟨z, y, xs, r, ob, es, ep, e, c⟩ := x
    exact ⟨z, y, xs, Paired.mapP r fun p q z => ⟨z.1, ht _ _ z.2.1, z.2.2⟩, ob, es, ep, k _ _ (.inl rfl) e, c⟩
  | set S n => obtain ⟨ob, es, ep, t, e, c⟩ := x; exact ⟨ob, es, ep, t, k _ _ (.inl rfl) e, c⟩
  | ins C dx fs =>
    obtain ⟨d, z, ne, e, mA, ⟨od, es, ep, e2, c⟩, r⟩ := x
    exact ⟨ho _ d, z, ne, k _ _ (.inl rfl) e, mA, ⟨od, es, ep, k _ _ (.inr d) e2, c⟩, r⟩
  | own y => obtain ⟨ob, e⟩ := x; exact ⟨ob, k _ _ (.inl rfl) e⟩
  | xd fs => obtain ⟨mA, ⟨od, es, ep, e, c⟩, r⟩ := x; exact ⟨mA, ⟨od, es, ep, k _ _ (.inl rfl) e, c⟩, r⟩
  | rng lo hi => obtain ⟨t, u, v, e⟩ := x; exact ⟨t, u, v, k _ _ (.inl rfl) e⟩
  | frz ob u ih => obtain ⟨e, q⟩ := x; exact ⟨k _ _ (.inl rfl) e, ih q⟩
  | tbl ps =>
    have e : h.get? a = some { cls := .none, data := .fields ps } := x
    show h'.get? a = some { cls := .none, data := .fields ps }
    exact k a _ (.inl rfl) e
  | met f y =>
    have e : h.get? a = some (PySem.W.methodObj (.ref f) (.ref y)) := x
    show h'.get? a = some (PySem.W.methodObj (.ref f) (.ref y))
    exact k a _ (.inl rfl) e
  | ext φ => obtain ⟨p, ⟨o, e⟩, st⟩ := x; exact ⟨st _ _ p fun o q => k _ _ (.inl rfl) q, ⟨o, k _ _ (.inl rfl) e⟩, st⟩
theorem HOk.lt (x : HOk P w H h) (e : H a = some o) : a < h.objs.size := (x a o e).lt
theorem HOk.fresh (x : HOk P w H h) (e : h.objs.size ≤ a) : H a = none := by
  cases q : H a with
  | none => rfl
  | some u => exact absurd (Nat.lt_of_lt_of_le (x.lt q) e) (Nat.lt_irrefl _)
/-- every object of the heap is kept -/
theorem HOk.kept (x : HOk P w H h) (k : ∀ b u, h.get? b = some u → h'.get? b = some u) : HOk P w H h' := fun a o e =>
  (x a o e).stay (fun b u _ q => k b u q) (fun _ q => q) fun _ _ q => q
/-- a new object is laid and tracked -/
theorem HOk.laid (x : HOk P w H h) (k : ∀ b u, h.get? b = some u → h'.get? b = some u) (hp : h.objs.size ≤ a) (new : ObjOk P w (upd H a o) h' a o) : HOk P w (upd H a o) h' := fun b u e => by
  have hn := x.fresh hp
  by_cases hb : b = a
  · subst hb; rw [upd_same] at e; cases e; exact new
  · rw [upd_ne hb] at e
    exact (x b u e).stay (fun c v _ q => k c v q) (fun c q => by rw [upd_ne (ne_of_none q hn)]; exact q) fun c xs q => by rw [upd_ne (ne_of_none q hn)]; exact q
end

/-- what may be read as u: it is u, or a known u -/
def Rd (H : Hp) (a : Addr) (u : HO) : Prop := H a = some u ∨ ∃ o, H a = some (.frz o u)
theorem Rd.ok {P : Program} {w : World} {H : Hp} {h : Heap} {a : Addr} {u : HO} (r : Rd H a u) (x : HOk P w H h) : ObjOk P w H h a u := by
  rcases r with r | ⟨o, r⟩
  · exact x a u r
  · obtain ⟨_, q⟩ := x a _ r
    exact q
/-- what may be written -/
def Mut : Option HO → Prop
  | some (.lst _) => True
  | some (.dK _) => True
  | some (.dT _) => True
  | some (.set _ _) => True
  | some (.ins _ _ _) => True
  | some (.ext _) => True
  | _ => False
section
variable {P : Program} {w : World} {H : Hp} {h h' : Heap} {x e : Addr} {o' : HO}
/-- the object at e is changed: x itself, or the dict of the instance x -/
theorem HOk.write (ok : HOk P w H h) (mu : Mut (H x)) (he : e = x ∨ H e = some (.own x)) (k : ∀ b u, b ≠ e → h.get? b = some u → h'.get? b = some u) (heo : ∃ u, h'.get? e = some u)
    (new : ObjOk P w (upd H x o') h' x o') : HOk P w (upd H x o') h' := fun b u q => by
  have nown : ∀ c y, H c = some (.own y) → c ≠ x := fun c y r z => by subst z; rw [r] at mu; exact mu
  have ntup : ∀ c xs, H c = some (.tup xs) → c ≠ x := fun c xs r z => by subst z; rw [r] at mu; exact mu
  by_cases hb : b = x
  · subst hb; rw [upd_same] at q; cases q; exact new
  · rw [upd_ne hb] at q
    by_cases hbe : b = e
    · have q' : H b = some (.own x) := by
        rcases he with z | z
        · exact absurd (hbe.trans z) hb
        · rw [hbe]; exact z
      rw [q] at q'; cases q'
      obtain ⟨v, hv⟩ := heo
      exact ⟨v, by rw [hbe]; exact hv⟩
    · refine (ok b u q).stay (fun c v hc r => k c v ?_ r) (fun c r => by rw [upd_ne (nown c b r)]; exact r) fun c xs r => by rw [upd_ne (ntup c xs r)]; exact r
      rcases hc with rfl | hc
      · exact hbe
      · rintro rfl
        rcases he with z | z
        · exact nown c b hc z
        · rw [hc] at z; cases z; exact hb rfl
end

/-! ### kept unless tracked; of the frames at fs (the callers') the slots may change (an exception that passes writes there); of the records at ex (iterators) nothing is said -/
structure Un (fs ex : List Addr) (H H' : Hp) (h h' : Heap) : Prop where
  keep : ∀ b o, h.get? b = some o → H b = none → b ∉ fs → b ∉ ex → h'.get? b = some o
  slot : ∀ b o, h.get? b = some o → H b = none → b ∈ fs → b ∉ ex → ∃ sl, h'.get? b = some { o with slots := sl }
  free : ∀ b o, h.get? b = some o → H b = none → b ∉ ex → H' b = none
  there : ∀ b o, h.get? b = some o → b ∉ ex → ∃ o', h'.get? b = some o'
  tups : ∀ b xs, H b = some (.tup xs) → H' b = some (.tup xs)
  frzs : ∀ b o u, H b = some (.frz o u) → H' b = some (.frz o u)
  tbls : ∀ b ps, H b = some (.tbl ps) → ∃ more, H' b = some (.tbl (ps ++ more))
section
variable {fs fs' ex ex' : List Addr} {H H1 H2 : Hp} {h h1 h2 h' : Heap} {a x e : Addr} {o : HO}
theorem Un.any (u : Un fs ex H H1 h h1) {b : Addr} {ob : Obj} (q : h.get? b = some ob) (n : H b = none) (hx : b ∉ ex) : ∃ sl, h1.get? b = some { ob with slots := sl } := by
  by_cases hb : b ∈ fs
  · exact u.slot b ob q n hb hx
  · exact ⟨ob.slots, u.keep b ob q n hb hx⟩
theorem Un.kept (k : ∀ b u, h.get? b = some u → h'.get? b = some u) : Un fs ex H H h h' :=
  ⟨fun b ob q _ _ _ => k b ob q, fun b ob q _ _ _ => ⟨ob.slots, k b ob q⟩, fun _ _ _ n _ => n, fun b ob q _ => ⟨ob, k b ob q⟩, fun _ _ q => q, fun _ _ _ q => q, fun _ ps q => ⟨#[], by rw [q]; simp⟩⟩
theorem Un.refl : Un fs ex H H h h := Un.kept fun _ _ q => q
theorem Un.laid (k : ∀ b u, h.get? b = some u → h'.get? b = some u) (hp : h.objs.size ≤ a) (hn : H a = none) : Un fs ex H (upd H a o) h h' where
  keep := fun b u q _ _ _ => k b u q
  slot := fun b u q _ _ _ => ⟨u.slots, k b u q⟩
  free := fun b u q n _ => by rw [upd_ne (Nat.ne_of_lt (Nat.lt_of_lt_of_le (Heap.lt_size q) hp))]; exact n
  there := fun b u q _ => ⟨u, k b u q⟩
  tups := fun b xs q => by rw [upd_ne (ne_of_none q hn)]; exact q
  frzs := fun b u xs q => by rw [upd_ne (ne_of_none q hn)]; exact q
  tbls := fun b ps q => ⟨#[], by rw [upd_ne (ne_of_none q hn), q]; simp⟩
theorem Un.write (mu : Mut (H x)) (he : e = x ∨ H e = some (.own x)) (k : ∀ b u, b ≠ e → h.get? b = some u → h'.get? b = some u) (heo : ∃ u, h'.get? e = some u) : Un fs ex H (upd H x o) h h' := by
  have hx : ∀ b, H b = none → b ≠ x := fun b n z => by subst z; rw [n] at mu; exact mu
  have hb : ∀ b, H b = none → b ≠ e := fun b n z => by
    subst z
    rcases he with r | r
    · exact hx b n r
    · rw [n] at r; cases r
  have hm : ∀ b u, H b = some u → ¬ Mut (some u) → b ≠ x := fun b u q nm z => by subst z; rw [q] at mu; exact nm mu
  refine ⟨fun b u q n _ _ => k b u (hb b n) q, fun b u q n _ _ => ⟨u.slots, k b u (hb b n) q⟩, fun b u q n _ => by rw [upd_ne (hx b n)]; exact n, fun b u q _ => ?_,
    fun b xs q => by rw [upd_ne (hm b _ q fun z => z)]; exact q, fun b u xs q => by rw [upd_ne (hm b _ q fun z => z)]; exact q, fun b ps q => ⟨#[], by rw [upd_ne (hm b _ q fun z => z), q]; simp⟩⟩
  by_cases hbe : b = e
  · subst hbe; exact heo
  · exact ⟨u, k b u hbe q⟩
end

/-! ### the heap without what is tracked -/
def trk (h : Heap) (H : Hp) : List Addr := (List.range h.objs.size).filter fun a => (H a).isSome
def hidT (h : Heap) (H : Hp) : Heap := PySem.W.hideAll h (trk h H)
theorem hidT_size (h : Heap) (H : Hp) : (hidT h H).objs.size = h.objs.size := PySem.W.hideAll_size _ _
theorem hidT_get {h : Heap} {H : Hp} {b : Addr} {o : Obj} (e : h.get? b = some o) (n : H b = none) : (hidT h H).get? b = some o :=
  PySem.W.hideAll_get _ e fun hm => by
    have q : (H b).isSome = true := (List.mem_filter.mp hm).2
    rw [n] at q; simp at q
theorem of_hidT {h : Heap} {H : Hp} {b : Addr} {o : Obj} (e : (hidT h H).get? b = some o) : h.get? b = some o ∧ H b = none := by
  have e' : h.get? b = some o := PySem.W.of_hideAll (trk h H) e
  refine ⟨e', ?_⟩
  cases q : H b with
  | none => rfl
  | some x =>
    have hm : b ∈ trk h H := List.mem_filter.mpr ⟨List.mem_range.mpr (Heap.lt_size e'), by simp [q]⟩
    have z : (hidT h H).get? b = none := PySem.W.hideAll_none (trk h H) hm
    rw [z] at e; cases e

/-! ### OpenK's ledger, filled with every new object but one -/
def allNews (g h : Heap) (L : Addr) : List (Addr × Obj) := (List.range h.objs.size).filterMap fun a => if a = L ∨ (g.get? a).isSome = true then none else (h.get? a).map fun o => (a, o)
def rest (g h : Heap) (L d : Addr) : List (Addr × Obj) := (allNews g h L).filter fun p => decide (p.1 ≠ d)
end L2

namespace L2
open PySem PySem.Spec PyProof.Rows

/-- the module's facts, over the base: the heap at the law's entry without what is tracked there -/
structure Mod (K : PySem.W.Frag) (mg : Str → Option Value) (base : Heap) : Prop where
  kin : K.In base
  glob : base.Ns mainGlobals mg
  blt : ∃ mb, base.Ns builtinsNs mb ∧ ∀ x : Str, x ≠ "__name__" → mb x = bootBuiltins x
  nolimit : base.NoLimit

/-- the context: a def's body (or a comprehension's block) running. base: fixed through the whole law; s₀, H₀: the entry; outer: the frames whose slots others may change (a def's callers); stack: all frames that run;
   ex: iterators that were made ahead of the entry and are walked here (a comprehension's); fn: the names whose cells were made at the entry (a def: all; a comprehension's block: its own); calm: not within an except suite; pn: pins that every state bears; xe: what is wanted of an exception that leaves the code -/
structure Cx where
  prog : Program
  w : World
  K : PySem.W.Frag
  mg : Str → Option Value
  base : Heap
  A : Around
  N : List Str
  s₀ : Shared
  H₀ : Hp
  env : Env
  outer : List Env
  stack : List Env
  ex : List Addr
  fn : Str → Bool
  calm : Bool
  pn : List (Addr × Obj)
  xe : Value → Shared → Prop
/-- the callers' frames -/
def frs (l : List Env) : List Addr := l.filterMap (·.frame)
abbrev Cx.fs (X : Cx) : List Addr := frs X.outer

def Vis (sc : Scope) (x : Str) : Prop := sc.names.lookup x = some .local ∨ sc.names.lookup x = some .cell ∨ sc.names.lookup x = some .free
def Loc (sc : Scope) (x : Str) : Prop := sc.names.lookup x = some .local ∨ sc.names.lookup x = some .cell
def Look (env : Env) (h : Heap) (m : Str → Option Value) (x : Str) (u : Value) : Prop :=
  (env.kindOf x = some .local ∧ m x = some u) ∨ ((env.kindOf x = some .cell ∨ env.kindOf x = some .free) ∧ ∃ c, env.cells.lookup x = some c ∧ h.IsCell c (some u))

structure Cx.Ok (X : Cx) : Prop where
  mod : Mod X.K X.mg X.base
  kind : X.env.scope.kind = .function
  glob : X.env.globals = mainGlobals
  blt : X.env.builtins = builtinsNs
  above : X.s₀.heap.objs.size ≤ X.env.locals
  inj : ∀ x y c, X.env.cells.lookup x = some c → X.env.cells.lookup y = some c → x = y
  has : ∀ x, (X.env.kindOf x = some .cell ∨ X.env.kindOf x = some .free) → ∃ c, X.env.cells.lookup x = some c
  cab : ∀ x c, X.fn x = true → X.env.cells.lookup x = some c → X.s₀.heap.objs.size ≤ c
  hd : X.calm = true → X.A.handled = none
  frames : X.A.frames = some X.stack
  stk : X.stack = X.outer ∨ (X.stack = X.env :: X.outer ∧ X.env.frame = some X.env.locals)
  exf : ∀ b ∈ X.ex, b ≠ X.env.locals ∧ ∀ x c, X.env.cells.lookup x = some c → c ≠ b
  bs : ∀ b o, X.base.get? b = some o → X.s₀.heap.get? b = some o ∧ X.H₀ b = none
  bsz : X.base.objs.size ≤ X.s₀.heap.objs.size
  noex : ∀ b o, X.base.get? b = some o → b ∉ X.ex
  exfs : ∀ b ∈ X.ex, b ∉ X.fs
  funs : X.s₀.heap.FunFrames X.base X.outer
  frf : ∀ b ∈ X.fs, X.H₀ b = none

structure Inv (X : Cx) (pins : List (Addr × Obj)) (σ : List (Option V)) (H : Hp) (s : Shared) : Prop where
  ok : X.Ok
  os : s.os = X.s₀.os
  bare : AllBare s.gens
  base : Un X.fs X.ex X.H₀ H X.s₀.heap s.heap
  loc : ∃ m, s.heap.Ns X.env.locals m ∧ ∀ (i : Nat) (x : Str) (v : V), X.N[i]? = some x → σ[i]? = some (some v) → Vis X.env.scope x → ∃ u, RelV v u ∧ Look X.env s.heap m x u
  cell : ∀ x c, X.env.cells.lookup x = some c → ∃ v, s.heap.IsCell c v
  free : H X.env.locals = none
  freeC : ∀ x c, X.env.cells.lookup x = some c → H c = none
  pin : ∀ p ∈ X.pn ++ pins, s.heap.get? p.1 = some p.2 ∧ H p.1 = none ∧ p.1 ≠ X.env.locals ∧ p.1 ∉ X.fs ∧ ∀ v, p.2.data ≠ .cell v
  hok : HOk X.prog X.w H s.heap
  len : σ.length = X.N.length

section
variable {X : Cx} {pins : List (Addr × Obj)} {σ : List (Option V)} {H H' : Hp} {s : Shared} {h' : Heap}

theorem Cx.Ok.nofr (ok : X.Ok) {b : Addr} {o : Obj} (e : X.base.get? b = some o) : b ∉ X.fs := fun hb => by
  have := (ok.funs.mem hb).1
  rw [e] at this; cases this
theorem Inv.bs (I : Inv X pins σ H s) : ∀ b o, X.base.get? b = some o → s.heap.get? b = some o ∧ H b = none := fun b o e =>
  ⟨I.base.keep b o (I.ok.bs b o e).1 (I.ok.bs b o e).2 (I.ok.nofr e) (I.ok.noex b o e), I.base.free b o (I.ok.bs b o e).1 (I.ok.bs b o e).2 (I.ok.noex b o e)⟩
theorem Inv.bk (I : Inv X pins σ H s) : ∀ b o, X.base.get? b = some o → s.heap.get? b = some o := fun b o e => (I.bs b o e).1
theorem Inv.mod (I : Inv X pins σ H s) : Mod X.K X.mg X.base := I.ok.mod
theorem Inv.kIn (I : Inv X pins σ H s) : X.K.In s.heap := I.ok.mod.kin.keeps I.bk
theorem Inv.lt (I : Inv X pins σ H s) : X.env.locals < s.heap.objs.size := let ⟨_, hn, _⟩ := I.loc; hn.lt
theorem Inv.sz (I : Inv X pins σ H s) : X.s₀.heap.objs.size ≤ s.heap.objs.size := Nat.le_trans I.ok.above (Nat.le_of_lt I.lt)
theorem Inv.nofs (I : Inv X pins σ H s) {a : Addr} (h : s.heap.objs.size ≤ a) : a ∉ X.fs := fun hb => by
  obtain ⟨_, o, ho, _⟩ := I.ok.funs.mem hb
  exact absurd (Nat.lt_of_lt_of_le (Heap.lt_size ho) (Nat.le_trans I.sz h)) (Nat.lt_irrefl _)
theorem Inv.cne (I : Inv X pins σ H s) : ∀ x c, X.env.cells.lookup x = some c → c ≠ X.env.locals := fun x c e z => by
  obtain ⟨v, o, ho, hd⟩ := I.cell x c e
  obtain ⟨m, ⟨o', es, ep, ho', hd', _⟩, _⟩ := I.loc
  rw [z, ho'] at ho; cases ho; rw [hd'] at hd; cases hd
theorem Inv.funs (I : Inv X pins σ H s) : s.heap.FunFrames X.base X.outer := by
  have all : ∀ (l : List Env), (∀ b ∈ frs l, b ∈ X.fs) → X.s₀.heap.FunFrames X.base l → s.heap.FunFrames X.base l := by
    intro l
    induction l with
    | nil => intro _ _; trivial
    | cons env r ih =>
      intro hs hl
      obtain ⟨hk, ⟨L, o, hf, hn, ho, hd⟩, hr⟩ := hl
      have hL : L ∈ X.fs := hs L (by unfold frs; rw [List.filterMap_cons, hf]; exact List.mem_cons_self)
      obtain ⟨sl, e⟩ := I.base.slot L o ho (I.ok.frf L hL) hL fun z => I.ok.exfs L z hL
      exact ⟨hk, ⟨L, _, hf, hn, e, hd⟩, ih (fun b hb => hs b (by unfold frs; rw [List.filterMap_cons, hf]; exact List.mem_cons_of_mem _ hb)) hr⟩
  exact all X.outer (fun _ hb => hb) I.ok.funs

/-- the frames that run, for a call -/
theorem Inv.stack (I : Inv X pins σ H s) : s.heap.FunFrames X.base X.stack := by
  rcases I.ok.stk with e | ⟨e, hf⟩
  · rw [e]; exact I.funs
  · rw [e]
    obtain ⟨m, hn, _⟩ := I.loc
    refine .cons (by rw [I.ok.kind]; decide) hf hn ?_ I.funs
    exact Heap.get?_none_of_le (Nat.le_trans I.ok.bsz I.ok.above)
theorem Inv.stkSub (I : Inv X pins σ H s) : ∀ b ∈ frs X.stack, b ∈ X.env.locals :: X.fs := fun b hb => by
  rcases I.ok.stk with e | ⟨e, hf⟩
  · rw [e] at hb; exact List.mem_cons_of_mem _ hb
  · rw [e] at hb
    unfold frs at hb
    rw [List.filterMap_cons, hf] at hb
    exact hb
theorem Inv.stkFree (I : Inv X pins σ H s) : ∀ b ∈ frs X.stack, H b = none := fun b hb => by
  rcases List.mem_cons.mp (I.stkSub b hb) with e | hb
  · rw [e]; exact I.free
  · obtain ⟨_, o, ho, _⟩ := I.ok.funs.mem hb
    exact I.base.free b o ho (I.ok.frf b hb) fun z => I.ok.exfs b z hb

/-- THE STEP: the untracked objects but the frame and the records at ch are kept (the callers' frames up to slots), the frame's map is kept, the new abstract heap is held -/
theorem Inv.step {g' : Array GenState} {t' : Nat} {d' : Drawn} {ch : List Addr} (I : Inv X pins σ H s)
    (hch : ∀ b ∈ ch, (b ∈ X.ex ∨ X.s₀.heap.objs.size ≤ b) ∧ b ≠ X.env.locals ∧ (∀ x c, X.env.cells.lookup x = some c → c ≠ b) ∧ ∀ p ∈ X.pn ++ pins, p.1 ≠ b)
    (keep : ∀ b o, b ≠ X.env.locals → b ∉ X.fs → b ∉ ch → s.heap.get? b = some o → H b = none → h'.get? b = some o)
    (slot : ∀ b o, b ≠ X.env.locals → b ∈ X.fs → b ∉ ch → s.heap.get? b = some o → H b = none → ∃ sl, h'.get? b = some { o with slots := sl }) (free : ∀ b o, b ∉ ch → s.heap.get? b = some o → H b = none → H' b = none)
    (there : ∀ b o, b ∉ ch → s.heap.get? b = some o → ∃ o', h'.get? b = some o')
    (tups : ∀ b xs, H b = some (.tup xs) → H' b = some (.tup xs)) (frzs : ∀ b o u, H b = some (.frz o u) → H' b = some (.frz o u)) (tbls : ∀ b ps, H b = some (.tbl ps) → ∃ more, H' b = some (.tbl (ps ++ more)))
    (ns : ∀ m, s.heap.Ns X.env.locals m → h'.Ns X.env.locals m) (hok : HOk X.prog X.w H' h') (hg : AllBare g') :
    Inv X pins σ H' { s with heap := h', gens := g', drawn := d', toks := t' } := by
  have neL : ∀ b o, X.s₀.heap.get? b = some o → b ≠ X.env.locals := fun b o e => Nat.ne_of_lt (Nat.lt_of_lt_of_le (Heap.lt_size e) I.ok.above)
  have neC : ∀ b o, X.s₀.heap.get? b = some o → b ∉ X.ex → b ∉ ch := fun b o e hx hb => by
    rcases (hch b hb).1 with z | z
    · exact hx z
    · exact absurd (Nat.lt_of_lt_of_le (Heap.lt_size e) z) (Nat.lt_irrefl _)
  have cellK : ∀ x c, X.env.cells.lookup x = some c → ∀ v, s.heap.IsCell c v → h'.IsCell c v := fun x c e v ⟨o, ho, hd⟩ => by
    have nch : c ∉ ch := fun z => (hch c z).2.2.1 x c e rfl
    by_cases hc : c ∈ X.fs
    · obtain ⟨sl, q⟩ := slot c o (I.cne x c e) hc nch ho (I.freeC x c e)
      exact ⟨_, q, hd⟩
    · exact ⟨o, keep c o (I.cne x c e) hc nch ho (I.freeC x c e), hd⟩
  refine ⟨I.ok, I.os, hg, ⟨fun b o e n hb hx => ?_, fun b o e n hb hx => ?_, fun b o e n hx => ?_, fun b o e hx => ?_, fun b xs e => tups b xs (I.base.tups b xs e), fun b o xs e => frzs b o xs (I.base.frzs b o xs e), fun b ps e => ?_⟩, ?_, fun x c e => ?_, ?_, fun x c e => ?_, fun p hp => ?_, hok, I.len⟩
  · exact keep b o (neL b o e) hb (neC b o e hx) (I.base.keep b o e n hb hx) (I.base.free b o e n hx)
  · obtain ⟨sl, e1⟩ := I.base.slot b o e n hb hx
    obtain ⟨sl', e2⟩ := slot b _ (neL b o e) hb (neC b o e hx) e1 (I.base.free b o e n hx)
    exact ⟨sl', e2⟩
  · obtain ⟨o', e1⟩ := I.base.there b o e hx
    exact free b o' (neC b o e hx) e1 (I.base.free b o e n hx)
  · obtain ⟨o', e1⟩ := I.base.there b o e hx
    exact there b o' (neC b o e hx) e1
  · obtain ⟨m1, e1⟩ := I.base.tbls b ps e
    obtain ⟨m2, e2⟩ := tbls b _ e1
    exact ⟨m1 ++ m2, by rw [e2, Array.append_assoc]⟩
  · obtain ⟨m, hn, hl⟩ := I.loc
    refine ⟨m, ns m hn, fun i x v e1 e2 e3 => ?_⟩
    obtain ⟨u, r, l⟩ := hl i x v e1 e2 e3
    refine ⟨u, r, ?_⟩
    rcases l with l | ⟨k, c, e, z⟩
    · exact .inl l
    · exact .inr ⟨k, c, e, cellK x c e _ z⟩
  · obtain ⟨v, z⟩ := I.cell x c e
    exact ⟨v, cellK x c e v z⟩
  · obtain ⟨m, ⟨o, _, _, ho, _⟩, _⟩ := I.loc
    exact free _ o (fun z => (hch _ z).2.1 rfl) ho I.free
  · obtain ⟨v, o, ho, hd⟩ := I.cell x c e
    exact free c o (fun z => (hch c z).2.2.1 x c e rfl) ho (I.freeC x c e)
  · obtain ⟨e, n, ne, nf, d⟩ := I.pin p hp
    have nch : p.1 ∉ ch := fun z => (hch p.1 z).2.2.2 p hp rfl
    exact ⟨keep p.1 p.2 ne nf nch e n, free p.1 p.2 nch e n, ne, nf, d⟩
/-- .. where the frame's own object is kept too -/
theorem Inv.un {t' : Nat} (I : Inv X pins σ H s) (u : Un X.fs [] H H' s.heap h') (hok : HOk X.prog X.w H' h') : Inv X pins σ H' { s with heap := h', toks := t' } := by
  obtain ⟨m, ⟨o, es, ep, ho, r⟩, _⟩ := id I.loc
  obtain ⟨sl, hL⟩ := u.any ho I.free (by simp)
  exact I.step (g' := s.gens) (d' := s.drawn) (ch := []) (fun _ z => nomatch z) (fun b o _ hb _ e n => u.keep b o e n hb (by simp)) (fun b o _ hb _ e n => u.slot b o e n hb (by simp)) (fun b o _ e n => u.free b o e n (by simp)) (fun b o _ e => u.there b o e (by simp)) u.tups u.frzs u.tbls (fun m' hm => by
    obtain ⟨o', es', ep', ho', r'⟩ := hm
    rw [ho] at ho'; cases ho'
    exact ⟨_, es', ep', hL, r'⟩) hok I.bare
/-- behind a call (or a comprehension's block): the slots of this frame may have changed too, the records at ch may have turned -/
theorem Inv.call {g' : Array GenState} {t' : Nat} {d' : Drawn} {ch : List Addr} (I : Inv X pins σ H s) (u : Un (frs X.stack) ch H H' s.heap h') (hok : HOk X.prog X.w H' h') (hg : AllBare g')
    (hch : ∀ b ∈ ch, (b ∈ X.ex ∨ X.s₀.heap.objs.size ≤ b) ∧ b ≠ X.env.locals ∧ (∀ x c, X.env.cells.lookup x = some c → c ≠ b) ∧ ∀ p ∈ X.pn ++ pins, p.1 ≠ b) :
    Inv X pins σ H' { s with heap := h', gens := g', drawn := d', toks := t' } := by
  obtain ⟨m, ⟨o, es, ep, ho, r⟩, _⟩ := id I.loc
  obtain ⟨sl, hL⟩ := u.any ho I.free fun z => (hch _ z).2.1 rfl
  exact I.step (ch := ch) hch (fun b o hL hb hc e n => u.keep b o e n (fun z => (List.mem_cons.mp (I.stkSub b z)).elim hL hb) hc) (fun b o _ _ hc e n => u.any e n hc) (fun b o hc e n => u.free b o e n hc) (fun b o hc e => u.there b o e hc) u.tups u.frzs u.tbls (fun m' hm => by
    obtain ⟨o', es', ep', ho', r'⟩ := hm
    rw [ho] at ho'; cases ho'
    exact ⟨_, es', ep', hL, r'⟩) hok hg
/-- an untracked record of ours (an iterator) has turned -/
theorem Inv.turned {t' : Nat} {it : Addr} (I : Inv X pins σ H s) (k : ∀ b o, b ≠ it → s.heap.get? b = some o → h'.get? b = some o) (hn : H it = none) (hL : it ≠ X.env.locals)
    (h1 : it ∈ X.ex ∨ X.s₀.heap.objs.size ≤ it) (h2 : ∀ x c, X.env.cells.lookup x = some c → c ≠ it) (h3 : ∀ p ∈ X.pn ++ pins, p.1 ≠ it) : Inv X pins σ H { s with heap := h', toks := t' } := by
  have nit : ∀ b u, H b = some u → b ≠ it := fun b u e z => by rw [z, hn] at e; cases e
  refine I.step (g' := s.gens) (d' := s.drawn) (ch := [it]) (fun b hb => ?_) (fun b o _ _ hc e _ => k b o (fun z => hc (by simp [z])) e) (fun b o _ _ hc e _ => ⟨o.slots, k b o (fun z => hc (by simp [z])) e⟩) (fun _ _ _ _ n => n)
    (fun b o hc e => ⟨o, k b o (fun z => hc (by simp [z])) e⟩) (fun _ _ e => e) (fun _ _ _ e => e) (fun b ps e => ⟨#[], by rw [e]; simp⟩) (fun m hm => ?_) (fun b u e => ?_) I.bare
  · have e : b = it := by simpa using hb
    subst e
    exact ⟨h1, hL, h2, h3⟩
  · obtain ⟨o, es, ep, ho, r⟩ := hm
    exact ⟨o, es, ep, k _ o (Ne.symm hL) ho, r⟩
  · refine (I.hok b u e).stay (fun c v hc q => k c v ?_ q) (fun _ q => q) fun _ _ q => q
    rcases hc with z | z
    · rw [z]; exact nit b u e
    · exact nit c _ z
theorem Inv.tok (I : Inv X pins σ H s) (t : Nat) : Inv X pins σ H { s with toks := t } := I.un (h' := s.heap) (t' := t) Un.refl I.hok
/-- all objects kept -/
theorem Inv.kept {t' : Nat} (I : Inv X pins σ H s) (k : ∀ b u, s.heap.get? b = some u → h'.get? b = some u) : Inv X pins σ H { s with heap := h', toks := t' } := I.un (Un.kept k) (I.hok.kept k)
/-- a new object laid and tracked -/
theorem Inv.laid {a : Addr} {o : HO} {t' : Nat} (I : Inv X pins σ H s) (k : ∀ b u, s.heap.get? b = some u → h'.get? b = some u) (hp : s.heap.objs.size ≤ a) (new : ObjOk X.prog X.w (upd H a o) h' a o) :
    Inv X pins σ (upd H a o) { s with heap := h', toks := t' } := I.un (Un.laid k hp (I.hok.fresh hp)) (I.hok.laid k hp new)
/-- an object written -/
theorem Inv.write {x e : Addr} {o : HO} {t' : Nat} (I : Inv X pins σ H s) (mu : Mut (H x)) (he : e = x ∨ H e = some (.own x)) (k : ∀ b u, b ≠ e → s.heap.get? b = some u → h'.get? b = some u) (heo : ∃ u, h'.get? e = some u)
    (new : ObjOk X.prog X.w (upd H x o) h' x o) : Inv X pins σ (upd H x o) { s with heap := h', toks := t' } := I.un (Un.write mu he k heo) (I.hok.write mu he k heo new)
/-- forgetting slots, pins -/
theorem Inv.weak {σ' : List (Option V)} (I : Inv X pins σ H s) (hl : σ'.length = σ.length) (w : ∀ (i : Nat) v, σ'[i]? = some (some v) → σ[i]? = some (some v)) : Inv X pins σ' H s :=
  ⟨I.ok, I.os, I.bare, I.base, let ⟨m, hn, hl'⟩ := I.loc; ⟨m, hn, fun i x v e1 e2 e3 => hl' i x v e1 (w i v e2) e3⟩, I.cell, I.free, I.freeC, I.pin, I.hok, hl.trans I.len⟩
theorem Inv.pins_of {pins' : List (Addr × Obj)} (I : Inv X pins σ H s) (h : ∀ p ∈ pins', s.heap.get? p.1 = some p.2 ∧ H p.1 = none ∧ p.1 ≠ X.env.locals ∧ p.1 ∉ X.fs ∧ ∀ v, p.2.data ≠ .cell v) : Inv X pins' σ H s :=
  ⟨I.ok, I.os, I.bare, I.base, I.loc, I.cell, I.free, I.freeC, fun p hp => (List.mem_append.mp hp).elim (fun z => I.pin p (List.mem_append_left _ z)) (h p), I.hok, I.len⟩

theorem nodup_ix {N : List Str} (hN : N.Nodup) {i j : Nat} {x : Str} (a : N[i]? = some x) (b : N[j]? = some x) : i = j := by
  obtain ⟨h1, e1⟩ := List.getElem?_eq_some_iff.mp a
  obtain ⟨h2, e2⟩ := List.getElem?_eq_some_iff.mp b
  exact (List.getElem_inj hN).mp (e1.trans e2.symm)

/-- a name is stored; what changed -/
theorem store_ok2 {M : Model} {A : Around} {E : Value → Shared → Prop} {i : Nat} {x : Str} {v : V} {u : Value} {Q : Unit → Shared → Prop} (I : Inv X pins σ H s) (hN : X.N.Nodup) (hi : X.N[i]? = some x) (hx : Loc X.env.scope x) (r : RelV v u)
    (h : ∀ s', Inv X pins (σ.set i (some v)) H s' → (∃ a, Heap.SameBut a s.heap s'.heap ∧ (a = X.env.locals ∨ X.env.cells.lookup x = some a)) → Q () s') (hf : X.fn x = true ∨ X.env.scope.names.lookup x = some .local := by first | exact .inl rfl | exact .inr rfl | assumption) : wpAny M A (storeName X.env x u) Q E s := by
  obtain ⟨m, hn, hl⟩ := id I.loc
  have hcls : (X.env.scope.kind == .class || (X.env.scope.kind == .module && X.env.locals != X.env.globals)) = false := by rw [I.ok.kind]; rfl
  have hiσ : i < σ.length := by rw [I.len]; exact (List.getElem?_eq_some_iff.mp hi).1
  have cne := I.cne
  have tracked : ∀ {a : Addr} {h' : Heap}, (∃ o, s.heap.get? a = some o ∧ H a = none) → Heap.SameBut a s.heap h' → HOk X.prog X.w H h' := fun {a h'} ha hs b ob e => by
    obtain ⟨_, _, hfree⟩ := ha
    refine (I.hok b ob e).stay (fun c w' hc q => (hs.2 c ?_).trans q) (fun _ q => q) fun _ _ q => q
    rintro rfl
    rcases hc with rfl | hc
    · rw [hfree] at e; cases e
    · rw [hfree] at hc; cases hc
  rcases hx with hk | hk
  · refine wpAny_storeName_local hk hn (fun h' hn' hs => ?_) hcls
    obtain ⟨oL, _, _, hoL, _⟩ := id hn
    refine h _ ⟨I.ok, I.os, I.bare, ⟨fun b o e n hb hx => ?_, fun b o e n hb hx => ?_, I.base.free, fun b o e hx => ?_, I.base.tups, I.base.frzs, I.base.tbls⟩, ⟨_, hn', fun j y v' e1 e2 e3 => ?_⟩, fun y c e => ?_, I.free, I.freeC, fun p hp => ?_, tracked ⟨oL, hoL, I.free⟩ hs, by simpa using I.len⟩ ⟨_, hs, .inl rfl⟩
    · exact (hs.2 b (Nat.ne_of_lt (Nat.lt_of_lt_of_le (Heap.lt_size e) I.ok.above))).trans (I.base.keep b o e n hb hx)
    · obtain ⟨sl, e1⟩ := I.base.slot b o e n hb hx
      exact ⟨sl, (hs.2 b (Nat.ne_of_lt (Nat.lt_of_lt_of_le (Heap.lt_size e) I.ok.above))).trans e1⟩
    · obtain ⟨o', e1⟩ := I.base.there b o e hx
      exact ⟨o', (hs.2 b (Nat.ne_of_lt (Nat.lt_of_lt_of_le (Heap.lt_size e) I.ok.above))).trans e1⟩
    · by_cases hj : j = i
      · subst hj
        rw [hi] at e1; cases e1
        rw [List.getElem?_set_self hiσ] at e2
        cases e2
        exact ⟨u, r, .inl ⟨hk, by simp⟩⟩
      · rw [List.getElem?_set_ne (Ne.symm hj)] at e2
        obtain ⟨u', r', q⟩ := hl j y v' e1 e2 e3
        refine ⟨u', r', ?_⟩
        rcases q with ⟨k, e⟩ | ⟨k, c, e, z⟩
        · refine .inl ⟨k, ?_⟩
          have : y ≠ x := fun e => hj (nodup_ix hN e1 (e ▸ hi))
          simp [this, e]
        · exact .inr ⟨k, c, e, z.sameBut hs (cne y c e)⟩
    · obtain ⟨w', z⟩ := I.cell y c e
      exact ⟨w', z.sameBut hs (cne y c e)⟩
    · obtain ⟨e, n, ne, nf, d⟩ := I.pin p hp
      exact ⟨(hs.2 p.1 ne).trans e, n, ne, nf, d⟩
  · have hfn : X.fn x = true := by
      rcases hf with z | z
      · exact z
      · rw [z] at hk; cases hk
    obtain ⟨c, hc⟩ := I.ok.has x (.inl hk)
    obtain ⟨w', z⟩ := I.cell x c hc
    refine wpAny_storeName_cell I.ok.kind hk hc z (fun h' hc' hs => ?_)
    obtain ⟨oc, hoc, hocd⟩ := id z
    refine h { s with heap := h' } ⟨I.ok, I.os, I.bare, ⟨fun b o e n hb hx => ?_, fun b o e n hb hx => ?_, I.base.free, fun b o e hx => ?_, I.base.tups, I.base.frzs, I.base.tbls⟩, ⟨m, hn.sameBut hs (Ne.symm (cne x c hc)), fun j y v' e1 e2 e3 => ?_⟩, fun y c' e => ?_, I.free, I.freeC, fun p hp => ?_, tracked ⟨oc, hoc, I.freeC x c hc⟩ hs, by simpa using I.len⟩ ⟨c, hs, .inr hc⟩
    · exact (hs.2 b (Nat.ne_of_lt (Nat.lt_of_lt_of_le (Heap.lt_size e) (I.ok.cab x c hfn hc)))).trans (I.base.keep b o e n hb hx)
    · obtain ⟨sl, e1⟩ := I.base.slot b o e n hb hx
      exact ⟨sl, (hs.2 b (Nat.ne_of_lt (Nat.lt_of_lt_of_le (Heap.lt_size e) (I.ok.cab x c hfn hc)))).trans e1⟩
    · obtain ⟨o', e1⟩ := I.base.there b o e hx
      exact ⟨o', (hs.2 b (Nat.ne_of_lt (Nat.lt_of_lt_of_le (Heap.lt_size e) (I.ok.cab x c hfn hc)))).trans e1⟩
    · by_cases hj : j = i
      · subst hj
        rw [hi] at e1; cases e1
        rw [List.getElem?_set_self hiσ] at e2
        cases e2
        exact ⟨u, r, .inr ⟨.inl hk, c, hc, hc'⟩⟩
      · rw [List.getElem?_set_ne (Ne.symm hj)] at e2
        obtain ⟨u', r', q⟩ := hl j y v' e1 e2 e3
        refine ⟨u', r', ?_⟩
        rcases q with q | ⟨k, c', e, z'⟩
        · exact .inl q
        · refine .inr ⟨k, c', e, z'.sameBut hs ?_⟩
          rintro rfl
          exact hj (nodup_ix hN e1 (I.ok.inj _ _ _ e hc ▸ hi))
    · by_cases hcc : c' = c
      · subst hcc; exact ⟨_, hc'⟩
      · obtain ⟨w2, z2⟩ := I.cell y c' e
        exact ⟨w2, z2.sameBut hs hcc⟩
    · obtain ⟨e, n, ne, nf, d⟩ := I.pin p hp
      refine ⟨(hs.2 p.1 ?_).trans e, n, ne, nf, d⟩
      intro q
      rw [q, hoc] at e
      have q' : oc = p.2 := Option.some.inj e
      exact d w' (by rw [← q']; exact hocd)
theorem store_ok {M : Model} {A : Around} {E : Value → Shared → Prop} {i : Nat} {x : Str} {v : V} {u : Value} {Q : Unit → Shared → Prop} (I : Inv X pins σ H s) (hN : X.N.Nodup) (hi : X.N[i]? = some x) (hx : Loc X.env.scope x) (r : RelV v u)
    (h : ∀ s', Inv X pins (σ.set i (some v)) H s' → Q () s') (hf : X.fn x = true ∨ X.env.scope.names.lookup x = some .local := by first | exact .inl rfl | exact .inr rfl | assumption) : wpAny M A (storeName X.env x u) Q E s :=
  store_ok2 I hN hi hx r (fun s' I' _ => h s' I') hf
/-- behind a call or a block, the state as it is -/
theorem Inv.call' {s' : Shared} {ch : List Addr} (I : Inv X pins σ H s) (ho : s'.os = s.os) (u : Un (frs X.stack) ch H H' s.heap s'.heap) (hok : HOk X.prog X.w H' s'.heap) (hg : AllBare s'.gens)
    (hch : ∀ b ∈ ch, (b ∈ X.ex ∨ X.s₀.heap.objs.size ≤ b) ∧ b ≠ X.env.locals ∧ (∀ x c, X.env.cells.lookup x = some c → c ≠ b) ∧ ∀ p ∈ X.pn ++ pins, p.1 ≠ b) : Inv X pins σ H' s' := by
  obtain ⟨h', g', d', t', o'⟩ := s'
  have e : o' = s.os := ho
  subst e
  exact I.call (g' := g') (t' := t') (d' := d') u hok hg hch
end

/-! ### the judgements -/
/-- an exception: its class, its own dict's address (where it has one), the abstract heap behind it -/
abbrev XK := Value → Option Addr → Hp → Prop
abbrev St := List (Option V)
abbrev VK := V → Hp → Prop
/-- an expression's reading; a test's; an argument list's -/
abbrev TE := St → Hp → VK → Prop
abbrev TT := St → Hp → (Bool → Hp → Prop) → Prop
abbrev TA := St → Hp → (List V → Hp → Prop) → Prop
/-- what is wanted behind a statement -/
structure Ends where
  nx : St → Hp → Prop
  rt : VK
  bk : St → Hp → Prop := fun _ _ => False
  ct : St → Hp → Prop := fun _ _ => False
abbrev TS := Ends → St → Hp → Prop

def EP (X : Cx) (pins : List (Addr × Obj)) (σ : St) (Q : VK) (u : Value) (s' : Shared) : Prop := ∃ v H', Inv X pins σ H' s' ∧ RelV v u ∧ Q v H'
def TP (X : Cx) (pins : List (Addr × Obj)) (σ : St) (Q : Bool → Hp → Prop) (b : Bool) (s' : Shared) : Prop := ∃ H', Inv X pins σ H' s' ∧ Q b H'
def AP (X : Cx) (pins : List (Addr × Obj)) (σ : St) (Q : List V → Hp → Prop) (us : List Value) (s' : Shared) : Prop := ∃ vs H', Inv X pins σ H' s' ∧ Vals vs us ∧ Q vs H'
def SP (X : Cx) (pins : List (Addr × Obj)) (D : Ends) (f : Flow) (s' : Shared) : Prop :=
  match f with
  | .next => ∃ σ' H', Inv X pins σ' H' s' ∧ D.nx σ' H'
  | .brk => ∃ σ' H', Inv X pins σ' H' s' ∧ D.bk σ' H'
  | .cont => ∃ σ' H', Inv X pins σ' H' s' ∧ D.ct σ' H'
  | .ret u => ∃ v σ' H', Inv X pins σ' H' s' ∧ RelV v u ∧ D.rt v H'

def PE (X : Cx) (e : Expr) (t : TE) : Prop :=
  ∀ (pins : List (Addr × Obj)) (s : Shared) (σ : St) (H : Hp) (Q : VK), Inv X pins σ H s → t σ H Q → wpAny (model X.prog X.w) X.A (eval e X.env) (EP X pins σ Q) X.xe s
def PT (X : Cx) (e : Expr) (t : TT) : Prop :=
  ∀ (pins : List (Addr × Obj)) (s : Shared) (σ : St) (H : Hp) (Q : Bool → Hp → Prop), Inv X pins σ H s → t σ H Q → wpAny (model X.prog X.w) X.A (isTrue e X.env (eval e X.env)) (TP X pins σ Q) X.xe s
/-- a test whatever its 'whole' is (and, or) -/
def PW (X : Cx) (e : Expr) (t : TT) : Prop :=
  ∀ (whole : Sem Value) (pins : List (Addr × Obj)) (s : Shared) (σ : St) (H : Hp) (Q : Bool → Hp → Prop), Inv X pins σ H s → t σ H Q → wpAny (model X.prog X.w) X.A (isTrue e X.env whole) (TP X pins σ Q) X.xe s
theorem PW.pt {X : Cx} {e : Expr} {t : TT} (h : PW X e t) : PT X e t := h _
/-- an argument list (no star), from the left -/
def PA (X : Cx) (es : List Expr) (t : TA) : Prop :=
  ∀ (pos : Pos) (pins : List (Addr × Obj)) (s : Shared) (σ : St) (H : Hp) (Q : List V → Hp → Prop), Inv X pins σ H s → t σ H Q → wpAny (model X.prog X.w) X.A (spliced (backTo pos (starEach es X.env))) (AP X pins σ Q) X.xe s
def PS (X : Cx) (st : Stmt) (t : TS) : Prop :=
  ∀ (pins : List (Addr × Obj)) (s : Shared) (σ : St) (H : Hp) (D : Ends), Inv X pins σ H s → t D σ H → wpAny (model X.prog X.w) X.A (exec st X.env) (SP X pins D) X.xe s
def PSs (X : Cx) (st : List Stmt) (t : TS) : Prop :=
  ∀ (pins : List (Addr × Obj)) (s : Shared) (σ : St) (H : Hp) (D : Ends), Inv X pins σ H s → t D σ H → wpAny (model X.prog X.w) X.A (execs st X.env) (SP X pins D) X.xe s
/-- weaken the end -/
theorem thn {α : Type} {t : Sem α} {Q Q' : α → Shared → Prop} {M : Model} {A : Around} {E : Value → Shared → Prop} {s : Shared} (h : wpAny M A t Q E s) (hQ : ∀ a s, Q a s → Q' a s) : wpAny M A t Q' E s := wpAny_mono h hQ fun _ _ x => x
end L2

namespace L2
open PySem PySem.Spec PyProof.Rows
section
variable {X : Cx}

/-! ### names and constants -/
def tVar (i : Nat) : TE := fun σ H Q => ∃ v, σ[i]? = some (some v) ∧ Q v H
def tC (v : V) : TE := fun _ H Q => Q v H
theorem pe_var {i : Nat} {x : Str} {pos : Pos} (hN : X.N[i]? = some x) (hv : Vis X.env.scope x) (hd : (x == ("__debug__" : Str)) = false := by decide) (hcd : (x == ("__classdict__" : Str)) = false := by decide) : PE X (.Name x pos) (tVar i) := by
  intro pins s σ H Q I h
  obtain ⟨v, e, h⟩ := h
  obtain ⟨m, hn, hl⟩ := I.loc
  obtain ⟨u, r, l⟩ := hl i x v hN e hv
  have fin : EP X pins σ Q u s := ⟨v, H, I, r, h⟩
  rcases l with ⟨hk, hm⟩ | ⟨hk, c, hc, hcell⟩
  · exact wpAny_Name (wpAny_loadName_local I.ok.kind hk hn hm fin) hd
  · rcases hk with hk | hk
    · exact wpAny_Name (wpAny_loadName_cell I.ok.kind hk hc hcell fin) hd
    · exact wpAny_Name (wpAny_loadName_free I.ok.kind hk hc hcell fin hcd) hd
theorem pe_int {i j pos} : PE X (.Constant (.int i) j pos) (tC (.int i)) := fun _ _ _ H _ I h => wpAny_Constant_int ⟨.int i, H, I.tok _, ⟨_, rfl⟩, h⟩
theorem pe_bl {b j pos} : PE X (.Constant (.bool b) j pos) (tC (.bl b)) := fun _ _ _ H _ I h => Constant_bool ⟨.bl b, H, I, rfl, h⟩
theorem pe_non {j pos} : PE X (.Constant .none j pos) (tC .non) := fun _ _ _ H _ I h => Constant_none ⟨.non, H, I, rfl, h⟩
theorem pe_str {x j pos} : PE X (.Constant (.str x) j pos) (tC (.str x)) := fun _ _ _ H _ I h => Calls.Constant_str ⟨.str x, H, I.tok _, ⟨_, rfl⟩, h⟩

/-- a global name of the def -/
def Gl (X : Cx) (x : Str) : Prop := X.env.kindOf x = some .globalImplicit
theorem ld_glob {E : Value → Shared → Prop} {pins : List (Addr × Obj)} {s : Shared} {σ : St} {H : Hp} {x : Str} {u : Value} {pos : Pos} {Q : Value → Shared → Prop} (I : Inv X pins σ H s) (hg : Gl X x) (hm : X.mg x = some u) (h : Q u s)
    (hd : (x == ("__debug__" : Str)) = false := by decide) : wpAny (model X.prog X.w) X.A (eval (.Name x pos) X.env) Q E s :=
  Calls.Name_function_global I.ok.kind hg (Calls.loadGlobal_global (by rw [I.ok.glob]; exact I.mod.glob.keeps I.bk) hm h) hd
theorem ld_blt {E : Value → Shared → Prop} {pins : List (Addr × Obj)} {s : Shared} {σ : St} {H : Hp} {x : Str} {u : Value} {pos : Pos} {Q : Value → Shared → Prop} (I : Inv X pins σ H s) (hg : Gl X x) (hm : X.mg x = none) (hv : bootBuiltins x = some u) (h : Q u s)
    (hn : x ≠ "__name__" := by decide) (hd : (x == ("__debug__" : Str)) = false := by decide) : wpAny (model X.prog X.w) X.A (eval (.Name x pos) X.env) Q E s := by
  obtain ⟨mb, h1, h2⟩ := I.mod.blt
  exact Calls.Name_function_global I.ok.kind hg (Calls.loadGlobal_builtin (by rw [I.ok.glob]; exact I.mod.glob.keeps I.bk) hm (by rw [I.ok.blt]; exact h1.keeps I.bk) ((h2 x hn).trans hv) h) hd
/-- a module's constant, a class, a function, as a value -/
theorem pe_glob {x : Str} {v : V} {u : Value} {pos : Pos} (hg : Gl X x) (hm : X.mg x = some u) (r : RelV v u) (hd : (x == ("__debug__" : Str)) = false := by decide) : PE X (.Name x pos) (tC v) :=
  fun _ _ _ H _ I h => ld_glob I hg hm ⟨v, H, I, r, h⟩ hd
theorem pe_bltn {x : Str} {v : V} {u : Value} {pos : Pos} (hg : Gl X x) (hm : X.mg x = none) (hv : bootBuiltins x = some u) (r : RelV v u) (hn : x ≠ "__name__" := by decide) (hd : (x == ("__debug__" : Str)) = false := by decide) : PE X (.Name x pos) (tC v) :=
  fun _ _ _ H _ I h => ld_blt I hg hm hv ⟨v, H, I, r, h⟩ hn hd

/-! ### arithmetic -/
/-- two ints -/
def t2I (ta tb : TE) (k : Int → Int → Hp → Prop) : St → Hp → Prop := fun σ H => ta σ H fun x H1 => tb σ H1 fun y H2 => ∃ i j, x = .int i ∧ y = .int j ∧ k i j H2
def tAdd (ta tb : TE) : TE := fun σ H Q => t2I ta tb (fun i j H2 => Q (.int (i + j)) H2) σ H
def tSub (ta tb : TE) : TE := fun σ H Q => t2I ta tb (fun i j H2 => Q (.int (i - j)) H2) σ H
/-- the left factor below 2^64 -/
def tMul (ta tb : TE) : TE := fun σ H Q => t2I ta tb (fun i j H2 => (-(2 ^ 64) < i ∧ i < 2 ^ 64) ∧ Q (.int (i * j)) H2) σ H
variable {a b : Expr} {ta tb : TE} {pos : Pos}
/-! ### comparisons -/
def PC (X : Cx) (op : CmpOp) (a b : Expr) (t : TE) : Prop :=
  ∀ (pins : List (Addr × Obj)) (s : Shared) (σ : St) (H : Hp) (Q : VK), Inv X pins σ H s → t σ H Q →
    wpAny (model X.prog X.w) X.A (eval a X.env) (fun v s₁ => wpAny (model X.prog X.w) X.A (eval b X.env) (fun u s₂ => wpAny (model X.prog X.w) X.A (compareOp op v u) (EP X pins σ Q) X.xe s₂) X.xe s₁) X.xe s
def tCmp (p : Int → Int → Bool) (ta tb : TE) : TE := fun σ H Q => t2I ta tb (fun i j H2 => Q (.bl (p i j)) H2) σ H
abbrev tLt : TE → TE → TE := tCmp fun i j => decide (i < j)
abbrev tLe : TE → TE → TE := tCmp fun i j => decide (i ≤ j)
abbrev tGt : TE → TE → TE := tCmp fun i j => decide (j < i)
abbrev tGe : TE → TE → TE := tCmp fun i j => decide (j ≤ i)
abbrev tEqI : TE → TE → TE := tCmp fun i j => decide (i = j)
abbrev tNeI : TE → TE → TE := tCmp fun i j => !decide (i = j)
/-- is None -/
def tIsN (ta : TE) : TE := fun σ H Q => ta σ H fun x H1 => Q (.bl (decide (x = .non))) H1
def tNotN (ta : TE) : TE := fun σ H Q => ta σ H fun x H1 => Q (.bl (!decide (x = .non))) H1
/-- a comparison as a value, as a test -/
def tB (t : TE) : TT := fun σ H Q => t σ H fun x H1 => ∃ c, x = .bl c ∧ Q c H1
theorem pt_cmp {op : CmpOp} {t : TE} (h : PC X op a b t) (h1 : behindInMarks op b = false := by first | exact nobehind _ (by decide) (by decide) | rfl) : PT X (.Compare a [op] [b] pos) (tB t) := by
  intro pins s σ H Q I hw
  refine wpAny_isTrue_Compare1 (thn (h pins s σ H _ I hw) fun v s1 h1 => thn h1 fun u s2 h2 => thn h2 fun c s3 ⟨x, H1, I1, r1, q1⟩ => ?_) h1
  obtain ⟨d, rfl, q⟩ := q1
  cases r1
  exact wpAny_truthy_bool ⟨H1, I1, q⟩
/-- an expression whose value is a bool, as a test -/
theorem pt_val {e : Expr} {t : TE} (h : PE X e t) (he : ∀ whole, isTrue e X.env whole = (do let v ← whole; standAt e.pos; holding [v] (truthy v)) := by intro _; rfl) : PT X e (tB t) := by
  intro pins s σ H Q I hw
  refine isTrue_plain (thn (h pins s σ H _ I hw) fun v s1 ⟨x, H1, I1, r1, q1⟩ => ?_) (he _)
  obtain ⟨d, rfl, q⟩ := q1
  cases r1
  exact wpAny_truthy_bool ⟨H1, I1, q⟩

/-! ### and, or, not -/
variable {tA tB' : TT} {rest : List Expr}
def tAnd (t u : TT) : TT := fun σ H Q => t σ H fun c H1 => if c = true then u σ H1 Q else Q false H1
def tOr (t u : TT) : TT := fun σ H Q => t σ H fun c H1 => if c = true then Q true H1 else u σ H1 Q
def tNot (t : TT) : TT := fun σ H Q => t σ H fun c H1 => Q (!c) H1
theorem pw_and1 (ha : PT X a tA) : PW X (.BoolOp .And [a] pos) tA := by
  intro wh pins s σ H Q I h
  refine isTrue_and (thn (ha pins s σ H Q I h) fun c s1 e => ?_)
  cases c with
  | true => exact isTrue_and_nil e
  | false => exact e
theorem pw_or1 (ha : PT X a tA) : PW X (.BoolOp .Or [a] pos) tA := by
  intro wh pins s σ H Q I h
  refine isTrue_or (thn (ha pins s σ H Q I h) fun c s1 e => ?_)
  cases c with
  | false => exact isTrue_or_nil e
  | true => exact e
theorem pw_and (ha : PT X a tA) (hb : PW X (.BoolOp .And (b :: rest) pos) tB') : PW X (.BoolOp .And (a :: b :: rest) pos) (tAnd tA tB') := by
  intro wh pins s σ H Q I h
  refine isTrue_and (thn (ha pins s σ H _ I h) fun c s1 ⟨H1, I1, q1⟩ => ?_)
  cases c with
  | true => exact hb wh pins s1 σ H1 Q I1 q1
  | false => exact ⟨H1, I1, q1⟩
theorem pw_or (ha : PT X a tA) (hb : PW X (.BoolOp .Or (b :: rest) pos) tB') : PW X (.BoolOp .Or (a :: b :: rest) pos) (tOr tA tB') := by
  intro wh pins s σ H Q I h
  refine isTrue_or (thn (ha pins s σ H _ I h) fun c s1 ⟨H1, I1, q1⟩ => ?_)
  cases c with
  | true => exact ⟨H1, I1, q1⟩
  | false => exact hb wh pins s1 σ H1 Q I1 q1
theorem pt_not (ha : PT X a tA) : PT X (.UnaryOp .Not a pos) (tNot tA) := by
  intro pins s σ H Q I h
  exact isTrue_not (ha pins s σ H (fun c H1 => Q (!c) H1) I h)
/-- .. as values (bools) -/
def tAndV (ta tb : TE) : TE := fun σ H Q => ta σ H fun x H1 => ∃ c, x = .bl c ∧ if c = true then tb σ H1 Q else Q (.bl false) H1
def tOrV (ta tb : TE) : TE := fun σ H Q => ta σ H fun x H1 => ∃ c, x = .bl c ∧ if c = true then Q (.bl true) H1 else tb σ H1 Q
def tNotV (ta : TE) : TE := fun σ H Q => ta σ H fun x H1 => ∃ c, x = .bl c ∧ Q (.bl (!c)) H1
theorem pe_one {op} {t : TE} (h : PE X a t) : PE X (.BoolOp op [a] pos) t := fun pins s σ H Q I hw => BoolOp_one (h pins s σ H Q I hw)
theorem pe_and (ha : PE X a ta) (hb : PE X (.BoolOp .And (b :: rest) pos) tb) : PE X (.BoolOp .And (a :: b :: rest) pos) (tAndV ta tb) := by
  intro pins s σ H Q I h
  refine BoolOp_and (thn (ha pins s σ H _ I h) fun v s1 ⟨x, H1, I1, r1, q1⟩ => ?_)
  obtain ⟨c, rfl, q1⟩ := q1
  cases r1
  refine wpAny_truthy_bool ?_
  cases c with
  | true => exact hb pins s1 σ H1 Q I1 q1
  | false => exact ⟨.bl false, H1, I1, rfl, q1⟩
theorem pe_not (ha : PE X a ta) : PE X (.UnaryOp .Not a pos) (tNotV ta) := by
  intro pins s σ H Q I h
  refine UnaryOp_ (thn (ha pins s σ H _ I h) fun v s1 ⟨x, H1, I1, r1, q1⟩ => ?_)
  obtain ⟨c, rfl, q1⟩ := q1
  cases r1
  exact not_of (wpAny_truthy_bool ⟨.bl (!c), H1, I1, rfl, q1⟩)
/-- a if t else b -/
def tIf (t : TT) (ta tb : TE) : TE := fun σ H Q => t σ H fun c H1 => if c = true then ta σ H1 Q else tb σ H1 Q
end
end L2

namespace L2
open PySem PySem.Spec PyProof.Rows

/-! ### a list, a tuple that is read: tracked, frozen, or an object of the module -/
def SqL (K : PySem.W.Frag) (H : Hp) (a : Addr) (xs : List V) : Prop :=
  Rd H a (.lst xs) ∨
    ∃ (o : Obj) (its : Array Value) (n : Nat), K.lookup a = some o ∧ o.cls = .type "list" ∧ o.dict = none ∧ o.data = .seq its n ∧ its.size ≤ sizeLine ∧ Vals xs its.toList
def SqT (K : PySem.W.Frag) (H : Hp) (a : Addr) (xs : List V) : Prop :=
  Rd H a (.tup xs) ∨
    ∃ (o : Obj) (its : Array Value) (n : Nat), K.lookup a = some o ∧ o.cls = .type "tuple" ∧ o.data = .seq its n ∧ its.size ≤ sizeLine ∧ Vals xs its.toList
def absV : Value → Option V
  | .none => some .non
  | .bool b => some (.bl b)
  | .int i _ => some (.int i)
  | .str x _ => some (.str x)
  | .bytes b _ => some (.byt b)
  | .float b _ => some (.flt b)
  | .ref a => some (.ref a)
  | .type n => some (.ty n)
  | _ => none
theorem RelV.abs {x : V} {u : Value} (r : RelV x u) : absV u = some x := by
  cases x with
  | non => cases r; rfl
  | bl _ => cases r; rfl
  | int _ => obtain ⟨t, rfl⟩ := r; rfl
  | str _ => obtain ⟨t, rfl⟩ := r; rfl
  | byt _ => obtain ⟨t, rfl⟩ := r; rfl
  | flt _ => obtain ⟨t, rfl⟩ := r; rfl
  | ref _ => cases r; rfl
  | ty _ => cases r; rfl
theorem RelV.inj {x y : V} {u : Value} (r : RelV x u) (q : RelV y u) : x = y := Option.some.inj (r.abs.symm.trans q.abs)
theorem Vals.inj : ∀ {xs ys : List V} {us : List Value}, Vals xs us → Vals ys us → xs = ys
  | _, _, _, .nil, .nil => rfl
  | _, _, _, .cons r t, .cons r' t' => by rw [r.inj r', Vals.inj t t']
section
variable {X : Cx} {pins : List (Addr × Obj)} {σ : St} {H : Hp} {s : Shared} {a : Addr} {xs ys : List V}
theorem SqL.of {K : PySem.W.Frag} (h : H a = some (.lst xs)) : SqL K H a xs := .inl (.inl h)
theorem SqT.of {K : PySem.W.Frag} (h : H a = some (.tup xs)) : SqT K H a xs := .inl (.inl h)
theorem Inv.list (I : Inv X pins σ H s) (h : SqL X.K H a xs) : ∃ its : List Value, Vals xs its ∧ PlainL s.heap a its.toArray ∧ xs.length ≤ sizeLine := by
  rcases h with h | ⟨o, its, n, hk, hc, hd, hs, hz, r⟩
  · obtain ⟨z, its, n, r, e⟩ := h.ok I.hok
    exact ⟨its, r, ⟨_, n, e, rfl, rfl, rfl⟩, z⟩
  · refine ⟨its.toList, r, ⟨o, n, I.kIn a o hk, hc, hd, by simpa using hs⟩, ?_⟩
    have e := r.length
    simp only [Array.length_toList] at e
    omega
theorem Inv.tuple (I : Inv X pins σ H s) (h : SqT X.K H a xs) : ∃ its : List Value, Vals xs its ∧ IsTup s.heap a its.toArray ∧ xs.length ≤ sizeLine := by
  rcases h with h | ⟨o, its, n, hk, hc, hs, hz, r⟩
  · obtain ⟨z, its, r, p⟩ := h.ok I.hok
    exact ⟨its, r, p, z⟩
  · refine ⟨its.toList, r, ⟨o, I.kIn a o hk, hc, n, by simpa using hs⟩, ?_⟩
    have e := r.length
    simp only [Array.length_toList] at e
    omega
theorem Inv.list_inj (I : Inv X pins σ H s) (h : SqL X.K H a xs) (h' : SqL X.K H a ys) : xs = ys := by
  obtain ⟨its, r, ⟨o, n, e, _, _, d⟩, _⟩ := I.list h
  obtain ⟨its', r', ⟨o', n', e', _, _, d'⟩, _⟩ := I.list h'
  rw [e] at e'; cases e'
  rw [d] at d'
  injection d' with d1 _
  have : its = its' := by simpa using congrArg Array.toList d1
  subst this
  exact r.inj r'
end

/-! ### another wish about exceptions -/
abbrev Cx.wish (X : Cx) (E : Value → Shared → Prop) : Cx := { X with xe := E }
/-- no exception leaves -/
abbrev Cx.nox (X : Cx) : Cx := X.wish fun _ _ => False
theorem Cx.Ok.wish {X : Cx} (ok : X.Ok) (E : Value → Shared → Prop) : (X.wish E).Ok :=
  ⟨ok.mod, ok.kind, ok.glob, ok.blt, ok.above, ok.inj, ok.has, ok.cab, ok.hd, ok.frames, ok.stk, ok.exf, ok.bs, ok.bsz, ok.noex, ok.exfs, ok.funs, ok.frf⟩
theorem Cx.Ok.unwish {X : Cx} {E : Value → Shared → Prop} (ok : (X.wish E).Ok) : X.Ok :=
  ⟨ok.mod, ok.kind, ok.glob, ok.blt, ok.above, ok.inj, ok.has, ok.cab, ok.hd, ok.frames, ok.stk, ok.exf, ok.bs, ok.bsz, ok.noex, ok.exfs, ok.funs, ok.frf⟩
section
variable {X : Cx} {pins : List (Addr × Obj)} {σ : St} {H : Hp} {s : Shared} {E : Value → Shared → Prop}
theorem Inv.wish (I : Inv X pins σ H s) (E : Value → Shared → Prop) : Inv (X.wish E) pins σ H s := ⟨I.ok.wish E, I.os, I.bare, I.base, I.loc, I.cell, I.free, I.freeC, I.pin, I.hok, I.len⟩
theorem Inv.unwish (I : Inv (X.wish E) pins σ H s) : Inv X pins σ H s := ⟨I.ok.unwish, I.os, I.bare, I.base, I.loc, I.cell, I.free, I.freeC, I.pin, I.hok, I.len⟩
theorem SP.unwish {D : Ends} {f : Flow} {s' : Shared} (h : SP (X.wish E) pins D f s') : SP X pins D f s' := by
  cases f with
  | next => obtain ⟨σ', H', I, q⟩ := h; exact ⟨σ', H', I.unwish, q⟩
  | brk => obtain ⟨σ', H', I, q⟩ := h; exact ⟨σ', H', I.unwish, q⟩
  | cont => obtain ⟨σ', H', I, q⟩ := h; exact ⟨σ', H', I.unwish, q⟩
  | ret u => obtain ⟨v, σ', H', I, r, q⟩ := h; exact ⟨v, σ', H', I.unwish, r, q⟩
theorem PSs.nox {st : List Stmt} {t : TS} (h : PSs X.nox st t) : PSs X st t := fun pins s σ H D I hw =>
  wpAny_mono (h pins s σ H D (I.wish _) hw) (fun _ _ q => q.unwish) fun _ _ z => False.elim z
end

/-! ### blocks and small statements -/
section
variable {X : Cx} {st : Stmt} {rest : List Stmt} {t u : TS} {e : Expr} {te : TE} {pos : Pos}
def tNext : TS := fun D σ H => D.nx σ H
def tSeq (t u : TS) : TS := fun D σ H => t { D with nx := u D } σ H
theorem pss_nil : PSs X [] tNext := fun _ _ σ H _ I h => wpAny_execs_nil ⟨σ, H, I, h⟩
theorem pss_cons (h1 : PS X st t) (h2 : PSs X rest u) : PSs X (st :: rest) (tSeq t u) := by
  intro pins s σ H D I h
  refine wpAny_execs_cons (thn (h1 pins s σ H { D with nx := u D } I h) fun f s1 q => ?_)
  cases f with
  | next =>
    obtain ⟨σ', H', I', q⟩ := q
    exact h2 pins s1 σ' H' D I' q
  | ret v => exact q
  | brk => exact q
  | cont => exact q
theorem pss_one (h1 : PS X st t) : PSs X [st] t := by
  intro pins s σ H D I h
  refine wpAny_execs_cons (thn (h1 pins s σ H D I h) fun f s1 q => ?_)
  cases f with
  | next => exact wpAny_execs_nil q
  | ret v => exact q
  | brk => exact q
  | cont => exact q
def tBreak : TS := fun D σ H => D.bk σ H
def tCont : TS := fun D σ H => D.ct σ H
/-- in a def's body nothing is shown -/
theorem Inv.quiet {pins : List (Addr × Obj)} {σ : St} {H : Hp} {s : Shared} (I : Inv X pins σ H s) : interactive X.env = false := by simp [interactive, I.ok.kind]
/-- an expression whose value is dropped -/
def tDrop (te : TE) : TS := fun D σ H => te σ H fun _ H1 => D.nx σ H1
theorem ps_expr (he : PE X e te) (hs : swapsWith e none pos.line X.env = pure false := by rfl) : PS X (.Expr e pos) (tDrop te) := by
  intro pins s σ H D I h
  exact wpAny_Expr_any (thn (he pins s σ H _ I h) fun v s1 ⟨x, H1, I1, r1, q1⟩ => ⟨σ, H1, I1, q1⟩) I.quiet hs
def tRet (te : TE) : TS := fun D σ H => te σ H D.rt
theorem ps_ret (he : PE X e te) : PS X (.Return (some e) pos) (tRet te) := by
  intro pins s σ H D I h
  exact wpAny_Return_some (thn (he pins s σ H _ I h) fun v s1 ⟨x, H1, I1, r1, q1⟩ => ⟨x, σ, H1, I1, r1, q1⟩)
def tRetN : TS := fun D _ H => D.rt .non H
def tIfS (c : TT) (t u : TS) : TS := fun D σ H => c σ H fun b H1 => if b = true then t D σ H1 else u D σ H1
theorem ps_if {c : Expr} {a b : List Stmt} {tc : TT} (hc : PT X c tc) (ha : PSs X a t) (hb : PSs X b u) : PS X (.If c a b pos) (tIfS tc t u) := by
  intro pins s σ H D I h
  refine wpAny_If (thn (hc pins s σ H _ I h) fun d s1 ⟨H1, I1, q1⟩ => ?_)
  cases d with
  | true => exact ha pins s1 σ H1 D I1 q1
  | false => exact hb pins s1 σ H1 D I1 q1
/-- code that the proof never comes to -/
def tNever : TS := fun _ _ _ => False
theorem ps_never : PS X st tNever := fun _ _ _ _ _ _ h => h.elim
end

/-! ### targets -/
abbrev TG := V → St → Hp → (St → Hp → Prop) → Prop
abbrev TGs := List V → St → Hp → (St → Hp → Prop) → Prop
def PG (X : Cx) (target : Expr) (t : TG) : Prop :=
  ∀ (pins : List (Addr × Obj)) (s : Shared) (σ : St) (H : Hp) (v : V) (u : Value) (Q : St → Hp → Prop), Inv X pins σ H s → RelV v u → t v σ H Q →
    wpAny (model X.prog X.w) X.A (assign target X.env u) (fun _ s' => ∃ σ' H', Inv X pins σ' H' s' ∧ Q σ' H') X.xe s
/-- several targets, one after another -/
def PGs (X : Cx) (ts : List Expr) (t : TGs) : Prop :=
  ∀ (pins : List (Addr × Obj)) (s : Shared) (σ : St) (H : Hp) (vs : List V) (us : List Value) (Q : St → Hp → Prop), Inv X pins σ H s → Vals vs us → t vs σ H Q →
    wpAny (model X.prog X.w) X.A (assignInOrder ((assignEach ts X.env).map (·.2)) us) (fun _ s' => ∃ σ' H', Inv X pins σ' H' s' ∧ Q σ' H') X.xe s
/-- o[i] = v, by values -/
abbrev TSet := V → V → V → Hp → (Hp → Prop) → Prop
def PSet (X : Cx) (t : TSet) : Prop :=
  ∀ (pins : List (Addr × Obj)) (s : Shared) (σ : St) (H : Hp) (o i v : V) (ov iv u : Value) (Q : Hp → Prop), Inv X pins σ H s → RelV o ov → RelV i iv → RelV v u → t o i v H Q →
    wpAny (model X.prog X.w) X.A (setItem ov iv u) (fun _ s' => ∃ H', Inv X pins σ H' s' ∧ Q H') X.xe s
/-- a op= b, by values -/
abbrev TIp := V → V → Hp → VK → Prop
def PIp (X : Cx) (op : Operator) (t : TIp) : Prop :=
  ∀ (pins : List (Addr × Obj)) (s : Shared) (σ : St) (H : Hp) (x y : V) (v u : Value) (Q : VK), Inv X pins σ H s → RelV x v → RelV y u → t x y H Q →
    wpAny (model X.prog X.w) X.A (inplaceOp op v u) (EP X pins σ Q) X.xe s
section
variable {X : Cx} {pos : Pos}
def gName (i : Nat) : TG := fun v σ H Q => Q (σ.set i (some v)) H
theorem pg_name {i : Nat} {x : Str} (hN : X.N.Nodup) (hi : X.N[i]? = some x) (hx : Loc X.env.scope x) (hf : X.fn x = true ∨ X.env.scope.names.lookup x = some .local := by first | exact .inl rfl | exact .inr rfl | assumption) : PG X (.Name x pos) (gName i) := by
  intro pins s σ H v u Q I r h
  exact wpAny_assign_Name (store_ok I hN hi hx r (fun s' I' => ⟨_, H, I', h⟩) hf)
def gNil : TGs := fun vs σ H Q => vs = [] ∧ Q σ H
def gCons (t : TG) (u : TGs) : TGs := fun vs σ H Q => ∃ v r, vs = v :: r ∧ t v σ H fun σ' H' => u r σ' H' Q
theorem pgs_nil : PGs X [] gNil := by
  intro pins s σ H vs us Q I r h
  obtain ⟨e, h⟩ := h
  subst e
  cases r
  exact assignInOrder_nil ⟨σ, H, I, h⟩
theorem pgs_cons {e : Expr} {es : List Expr} {t : TG} {u : TGs} (h1 : PG X e t) (h2 : PGs X es u)
    (hs : (assignEach (e :: es) X.env).map (·.2) = assign e X.env :: (assignEach es X.env).map (·.2) := by rfl) : PGs X (e :: es) (gCons t u) := by
  intro pins s σ H vs us Q I r h
  obtain ⟨v, vr, e1, h⟩ := h
  subst e1
  cases r with
  | cons r rr =>
    rw [hs]
    refine assignInOrder_cons (thn (h1 pins s σ H _ _ _ I r h) fun _ s1 ⟨σ1, H1, I1, q1⟩ => ?_)
    exact h2 pins s1 σ1 H1 _ _ Q I1 rr q1
/-- (a, b, ..) = a tuple of that length -/
def gTup (K : PySem.W.Frag) (n : Nat) (t : TGs) : TG := fun v σ H Q => ∃ a xs, v = .ref a ∧ SqT K H a xs ∧ xs.length = n ∧ t xs σ H Q
theorem pg_tup {es : List Expr} {k : Nat} {t : TGs} {n : Nat} (hc : X.calm = true) (h : PGs X es t)
    (hn : (assignEach es X.env).length = n := by rfl) (hst : (assignEach es X.env).findIdx? (·.1) = none := by rfl) : PG X (.Tuple es k pos) (gTup X.K n t) := by
  intro pins s σ H v u Q I r hw
  obtain ⟨a, xs, e1, hq, hl, hw⟩ := hw
  subst e1
  cases r
  obtain ⟨its, rv, ht, hz⟩ := I.tuple hq
  refine assign_Tuple_tuple (I.ok.hd hc) ht (by simp [hn, ← hl, rv.length]) hst fun h' hx => ?_
  have I1 : Inv X pins σ H { s with heap := h' } := I.kept (t' := s.toks) fun b o e => hx b o (Nat.ne_of_lt (Heap.lt_size e)) e
  exact h pins _ σ H xs _ Q I1 (by simpa using rv) hw
/-- o[i] = .. -/
def gSub (to ti : TE) (t : TSet) : TG := fun v σ H Q => to σ H fun o H1 => ti σ H1 fun i H2 => t o i v H2 fun H3 => Q σ H3
theorem pg_sub {o i : Expr} {to ti : TE} {t : TSet} (ho : PE X o to) (hi : PE X i ti) (hs : PSet X t)
    (ha : ∀ v, assign (.Subscript o i pos) X.env v = (do
      let ov ← holding [v] (eval o X.env)
      let iv ← holding [v, ov] (eval i X.env)
      standAt pos
      holding [v, ov, iv] (setItem ov iv v)
      release [v, ov, iv] []) := by intro _; rfl) : PG X (.Subscript o i pos) (gSub to ti t) := by
  intro pins s σ H v u Q I r h
  rw [ha]
  refine wpAny_bind (wpAny_holding (thn (ho pins s σ H _ I h) fun ov s1 ⟨x, H1, I1, r1, q1⟩ => ?_))
  refine wpAny_bind (wpAny_holding (thn (hi pins s1 σ H1 _ I1 q1) fun iv s2 ⟨y, H2, I2, r2, q2⟩ => ?_))
  refine wpAny_bind (wpAny_standAt (wpAny_bind (wpAny_holding (thn (hs pins s2 σ H2 x y v ov iv u _ I2 r1 r2 r q2) fun _ s3 ⟨H3, I3, q3⟩ => ?_))))
  exact wpAny_release ⟨σ, H3, I3, q3⟩
/-- target = value -/
def tAsg (te : TE) (g : TG) : TS := fun D σ H => te σ H fun x H1 => g x σ H1 D.nx
theorem ps_asg {tg e : Expr} {te : TE} {g : TG} (he : PE X e te) (hg : PG X tg g) (hs : swapsWithSole [tg] e pos.line X.env = pure false := by rfl) (hw : swappedStores [tg] e X.env = pure none := by rfl)
    (h1 : (assignEach [tg] X.env).map (·.2) = [assign tg X.env] := by rfl) : PS X (.Assign [tg] e pos) (tAsg te g) := by
  intro pins s σ H D I h
  refine wpAny_Assign_stores (thn (he pins s σ H _ I h) fun v s1 ⟨x, H1, I1, r1, q1⟩ => ?_) hs hw
  rw [h1]
  exact thn (hg pins s1 σ H1 x v _ I1 r1 q1) fun _ s2 q => q
/-- name = value -/
theorem ps_set {i : Nat} {x : Str} {e : Expr} {te : TE} {pos' : Pos} (hN : X.N.Nodup) (hi : X.N[i]? = some x) (hx : Loc X.env.scope x) (he : PE X e te) (hs : swapsWith e (some (.Name x pos')) pos.line X.env = pure false := by rfl) (hf : X.fn x = true ∨ X.env.scope.names.lookup x = some .local := by first | exact .inl rfl | exact .inr rfl | assumption) :
    PS X (.Assign [.Name x pos'] e pos) (tAsg te (gName i)) := by
  intro pins s σ H D I h
  refine wpAny_Assign_Name (thn (he pins s σ H _ I h) fun v s1 ⟨y, H1, I1, r1, q1⟩ => ?_) hs
  exact store_ok I1 hN hi hx r1 (fun s2 I2 => ⟨_, H1, I2, q1⟩) hf
/-- a, b = x, y with plain local names: stored from the right; the pair itself is not tracked (the opening rows as in PyProof/Rows/TupAssign.lean:23) -/
def tPar (i j : Nat) (ta : TA) : TS := fun D σ H => ta σ H fun vs H1 => ∃ v w, vs = [v, w] ∧ D.nx ((σ.set i (some v)).set j (some w)) H1
/-- name op= e -/
def tAug (i : Nat) (te : TE) (ti : TIp) : TS := fun D σ H => ∃ x, σ[i]? = some (some x) ∧ te σ H fun y H1 => ti x y H1 fun z H2 => D.nx (σ.set i (some z)) H2
/-- o[i] op= e -/
def tAugS (to ti te : TE) (tget : V → V → Hp → VK → Prop) (tip : TIp) (tset : TSet) : TS := fun D σ H => to σ H fun o H1 => ti σ H1 fun i H2 => tget o i H2 fun x H3 => te σ H3 fun y H4 => tip x y H4 fun z H5 => tset o i z H5 fun H6 => D.nx σ H6
/-- o[i], by values -/
def PGet (X : Cx) (t : V → V → Hp → VK → Prop) : Prop :=
  ∀ (pins : List (Addr × Obj)) (s : Shared) (σ : St) (H : Hp) (o i : V) (ov iv : Value) (Q : VK), Inv X pins σ H s → RelV o ov → RelV i iv → t o i H Q →
    wpAny (model X.prog X.w) X.A (getItem ov iv) (EP X pins σ Q) X.xe s
/-- ints -/
def ipI (f : Int → Int → Int) : TIp := fun x y H Q => ∃ i j, x = .int i ∧ y = .int j ∧ Q (.int (f i j)) H
end

/-! ### while -/
section
variable {X : Cx} {pos : Pos}
/-- the invariant W with its measure -/
def tWhile (c : TT) (tb : TS) : TS := fun D σ H => ∃ W : Nat → St → Hp → Prop, (∃ m, W m σ H) ∧ ∀ m σ H, W m σ H →
  c σ H fun b H1 => if b = true then ∃ N : St → Hp → Prop, (∀ σ' H', N σ' H' → ∃ m', m' < m ∧ W m' σ' H') ∧ tb { D with nx := N, ct := N, bk := D.nx } σ H1 else D.nx σ H1
theorem ps_while {c : Expr} {body : List Stmt} {tc : TT} {tb : TS} (hp : PassesOwn (model X.prog X.w) X.A X.env X.xe) (hc : PT X c tc) (hb : PSs X body tb) : PS X (.While c body [] pos) (tWhile tc tb) := by
  intro pins s σ H D I h
  obtain ⟨W, ⟨m0, w0⟩, turn⟩ := h
  refine wpAny_While (codeAny_whileLoop (fun n s' => ∃ σ' H', Inv X pins σ' H' s' ∧ W n σ' H') ?_ m0 ⟨σ, H, I, w0⟩)
  rintro n s1 ⟨σ1, H1, I1, w1⟩
  refine wpAny_passesOwn hp (thn (hc pins s1 σ1 H1 _ I1 (turn n σ1 H1 w1)) fun b s2 ⟨H2, I2, q2⟩ => ?_)
  cases b with
  | true =>
    obtain ⟨N, hN, q2⟩ := q2
    rw [if_pos rfl]
    refine wpAny_passesOwn hp (thn (hb pins s2 σ1 H2 _ I2 q2) fun f s3 q3 => ?_)
    cases f with
    | next =>
      obtain ⟨σ3, H3, I3, n3⟩ := q3
      obtain ⟨m', hm, w3⟩ := hN σ3 H3 n3
      exact ⟨m', hm, σ3, H3, I3, w3⟩
    | cont =>
      obtain ⟨σ3, H3, I3, n3⟩ := q3
      obtain ⟨m', hm, w3⟩ := hN σ3 H3 n3
      exact ⟨m', hm, σ3, H3, I3, w3⟩
    | brk => exact q3
    | ret v => exact q3
  | false =>
    rw [if_neg Bool.false_ne_true]
    exact wpAny_execs_nil ⟨σ1, H2, I2, q2⟩
end

/-! ### what a loop or a comprehension walks -/
/-- at turn i: it yields x (the heap may grow), or it stops -/
structure It where
  go : Nat → Hp → Prop
  yld : Nat → Hp → V → Hp → Prop
  stop : Nat → Hp → Prop
/-- the iterator's own objects may turn: they are not the frame's, not pinned, younger than the entry (or a comprehension's own) -/
def FpOk (X : Cx) (pins : List (Addr × Obj)) (H : Hp) (b : Addr) : Prop :=
  H b = none ∧ b ≠ X.env.locals ∧ b ∉ X.fs ∧ (b ∈ X.ex ∨ X.s₀.heap.objs.size ≤ b) ∧ (∀ x c, X.env.cells.lookup x = some c → c ≠ b) ∧ ∀ p ∈ X.pn ++ pins, p.1 ≠ b
theorem Inv.fpOk {X : Cx} {pins : List (Addr × Obj)} {σ : St} {H H' : Hp} {s : Shared} {b : Addr} (I : Inv X pins σ H s) (hb : s.heap.objs.size ≤ b) (hn : H' b = none) : FpOk X pins H' b := by
  refine ⟨hn, Nat.ne_of_gt (Nat.lt_of_lt_of_le I.lt hb), I.nofs hb, .inr (Nat.le_trans I.sz hb), fun x c e z => ?_, fun p hp z => ?_⟩
  · obtain ⟨v, q⟩ := I.cell x c e
    exact absurd (Nat.lt_of_lt_of_le q.lt (by rw [z]; exact hb)) (Nat.lt_irrefl _)
  · exact absurd (Nat.lt_of_lt_of_le (Heap.lt_size (I.pin p hp).1) (by rw [z]; exact hb)) (Nat.lt_irrefl _)
structure Turn (P : Program) (w : World) (K : PySem.W.Frag) (tg : Expr) (J : It) (fp : List Addr) (it : Addr) (tn : Nat → Heap → Prop) : Prop where
  mem : it ∈ fp
  obj : ∀ i h, tn i h → ∀ b ∈ fp, ∃ o, h.get? b = some o ∧ ∀ v, o.data ≠ .cell v
  keep : ∀ i h h', tn i h → (∀ b ∈ fp, ∀ o, h.get? b = some o → h'.get? b = some o) → tn i h'
  item : ∀ (X : Cx), X.prog = P → X.w = w → X.K = K → X.calm = true → ∀ (i : Nat) (pins : List (Addr × Obj)) (s : Shared) (σ : St) (H : Hp) (E : Value → Shared → Prop), Inv X pins σ H s → (∀ b ∈ fp, FpOk X pins H b) → tn i s.heap → J.go i H →
    wpAny (model P w) X.A (pyNext (.ref it)) (fun r s1 => ∃ u, r = some u ∧
      wpAny (model P w) X.A (letOwnedTupleGo tg (.ref it) u) (fun _ s2 => ∃ x H', Inv X pins σ H' s2 ∧ RelV x u ∧ J.yld i H x H' ∧ tn (i + 1) s2.heap ∧ ∀ b ∈ fp, H' b = none) E s1) E s
  done : ∀ (X : Cx), X.prog = P → X.w = w → X.K = K → X.calm = true → ∀ (i : Nat) (pins : List (Addr × Obj)) (s : Shared) (σ : St) (H : Hp) (E : Value → Shared → Prop), Inv X pins σ H s → (∀ b ∈ fp, FpOk X pins H b) → tn i s.heap → J.stop i H →
    wpAny (model P w) X.A (pyNext (.ref it)) (fun r s1 => r = none ∧ Inv X pins σ H s1) E s
  self : ∀ (A : Around) (i : Nat) (s : Shared) (Q : Value → Shared → Prop) (E : Value → Shared → Prop), tn i s.heap → Q (.ref it) s → wpAny (model P w) A (pyIter (.ref it)) Q E s
abbrev TI := St → Hp → (It → Hp → Prop) → Prop
/-- an iterator has come -/
def PIE (X : Cx) (pins : List (Addr × Obj)) (σ : St) (tg : Expr) (R : It → Hp → Prop) (itv : Value) (s2 : Shared) : Prop :=
  ∃ (it : Addr) (fp : List Addr) (tn : Nat → Heap → Prop) (J : It) (H' : Hp), itv = .ref it ∧ Inv X pins σ H' s2 ∧ Turn X.prog X.w X.K tg J fp it tn ∧ tn 0 s2.heap ∧ (∀ b ∈ fp, FpOk X pins H' b) ∧ R J H'
def PI (X : Cx) (tg iter : Expr) (wi : TI) : Prop :=
  ∀ (pins : List (Addr × Obj)) (s : Shared) (σ : St) (H : Hp) (R : It → Hp → Prop), Inv X pins σ H s → wi σ H R →
    wpAny (model X.prog X.w) X.A (eval iter X.env) (fun v s1 => wpAny (model X.prog X.w) X.A (pyIter v) (PIE X pins σ tg R) X.xe s1) X.xe s

/-- the step ahead of the store is nothing for an iterator that keeps no tuple -/
theorem go_of {M : Model} {A : Around} {E : Value → Shared → Prop} {s : Shared} {tg : Expr} {it : Addr} {u : Value} {o : Obj} {n : String} {vs : Array Value} {Q : Unit → Shared → Prop} (ho : s.heap.get? it = some o) (hc : o.cls = .type n) (hd : o.data = .fields vs)
    (hn : ["enumerate", "zip", "dict_itemiterator", "dict_reverseitemiterator", "odict_iterator", "itertools.zip_longest", "itertools.pairwise"].contains n = false) (hQ : Q () s) : wpAny M A (letOwnedTupleGo tg (.ref it) u) Q E s := by
  unfold letOwnedTupleGo
  cases tg <;> first
    | exact wpAny_pure hQ
    | (cases u <;> first
        | exact wpAny_pure hQ
        | (refine wpAny_bind (wpAny_load ho ?_)
           rw [hc, hd]
           show wpAny M A (if (["enumerate", "zip", "dict_itemiterator", "dict_reverseitemiterator", "odict_iterator", "itertools.zip_longest", "itertools.pairwise"].contains n && vs[0]? == some (rawInt _)) = true then _ else _) Q E s
           rw [if_neg (by intro h; rw [hn, Bool.false_and] at h; cases h)]
           exact wpAny_pure hQ))

/-- the list at a, as it stands at each turn (a loop may append to it) -/
def Itl (K : PySem.W.Frag) (a : Addr) : It :=
  ⟨fun i H => ∃ xs x, SqL K H a xs ∧ xs[i]? = some x, fun i H x H' => H' = H ∧ ∀ xs, SqL K H a xs → xs[i]? = some x, fun i H => ∃ xs, SqL K H a xs ∧ xs.length ≤ i⟩
def Itt (K : PySem.W.Frag) (a : Addr) : It :=
  ⟨fun i H => ∃ xs x, SqT K H a xs ∧ xs[i]? = some x, fun i H x H' => H' = H ∧ ∀ xs, SqT K H a xs → xs[i]? = some x, fun i H => ∃ xs, SqT K H a xs ∧ xs.length ≤ i⟩
/-- lo, lo + 1, .. (n of them) -/
def Itr (lo : Int) (n : Nat) : It := ⟨fun i _ => i < n, fun i H x H' => H' = H ∧ x = .int (lo + i), fun i _ => n ≤ i⟩
theorem turn_list {P : Program} {w : World} {K : PySem.W.Frag} {tg : Expr} (a it : Addr) : Turn P w K tg (Itl K a) [it] it (fun i h => h.IsListIter it a i) where
  mem := by simp
  obj := fun i h st b hb => by
    have e : b = it := by simpa using hb
    subst e
    obtain ⟨o, e, c, d⟩ := st
    exact ⟨o, e, fun v z => by rw [d] at z; cases z⟩
  keep := fun i h h' st k => st.at fun o e => k it (by simp) o e
  item := by
    intro X hP hw hK hc i pins s σ H E I hf st hg
    subst hP hw hK
    obtain ⟨xs, x, hq, hx⟩ := hg
    obtain ⟨its, rv, p, hz⟩ := I.list hq
    obtain ⟨u, hu, ru⟩ := rv.get hx
    obtain ⟨f0, f1, f2, f3, f4, f5⟩ := hf it (by simp)
    refine wpAny_pyNext_list_item st p.isList (x := u) (by simpa using hu) fun h' st' sb => ?_
    have I1 : Inv X pins σ H { s with heap := h' } := I.turned (t' := s.toks) (fun b o hb e => (sb.2 b hb).trans e) f0 f1 f3 f4 f5
    obtain ⟨o, e, c, d⟩ := id st'
    exact ⟨u, rfl, go_of (s := { s with heap := h' }) e c d (by decide) ⟨x, H, I1, ru, ⟨rfl, fun ys hy => by rw [I.list_inj hy hq]; exact hx⟩, st', fun b hb => (hf b hb).1⟩⟩
  done := by
    intro X hP hw hK hc i pins s σ H E I hf st hg
    subst hP hw hK
    obtain ⟨xs, hq, hx⟩ := hg
    obtain ⟨its, rv, p, hz⟩ := I.list hq
    obtain ⟨f0, f1, f2, f3, f4, f5⟩ := hf it (by simp)
    have hl := rv.length
    exact wpAny_pyNext_list_end (I.ok.hd hc) st p.isList (by simp; omega) fun h' eb => ⟨rfl, I.turned (t' := s.toks) (fun b o hb e => eb b o hb e) f0 f1 f3 f4 f5⟩
  self := fun _ _ _ _ _ st h => wpAny_pyIter_listiter st h
theorem turn_range {P : Program} {w : World} {K : PySem.W.Frag} {tg : Expr} (it : Addr) (lo : Int) (n : Nat) : Turn P w K tg (Itr lo n) [it] it (fun i h => IsRangeIter h it (lo + (i : Nat) * 1) ((n : Int) - (i : Nat)) 1) where
  mem := by simp
  obj := fun i h st b hb => by
    have e : b = it := by simpa using hb
    subst e
    exact ⟨_, st, fun v z => by
      have z' : Data.fields _ = Data.cell v := z
      cases z'⟩
  keep := fun i h h' st k => k it (by simp) _ st
  item := by
    intro X hP hw hK hc i pins s σ H E I hf st hg
    subst hP hw hK
    obtain ⟨f0, f1, f2, f3, f4, f5⟩ := hf it (by simp)
    have W := Walks.range (prog := X.prog) (w := X.w) (I.ok.hd hc) it lo 1 n
    refine W.item i s _ _ hg st fun v h' tk hv st' kk => ?_
    obtain ⟨t, rfl⟩ := hv
    have I1 : Inv X pins σ H { s with heap := h', toks := tk } := I.turned (fun b o hb e => kk b o (by simpa using hb) e) f0 f1 f3 f4 f5
    refine ⟨_, rfl, go_of (s := { s with heap := h', toks := tk }) (n := "range_iterator") st' rfl rfl (by decide) ⟨.int (lo + i), H, I1, ⟨t, ?_⟩, ⟨rfl, rfl⟩, st', fun b hb => (hf b hb).1⟩⟩
    rw [Int.mul_one]
  done := by
    intro X hP hw hK hc i pins s σ H E I hf st hg
    subst hP hw hK
    obtain ⟨f0, f1, f2, f3, f4, f5⟩ := hf it (by simp)
    exact wpAny_pyNext_range_end (I.ok.hd hc) st (by have : n ≤ i := hg; omega) fun h' eb => ⟨rfl, I.turned (t' := s.toks) (fun b o hb e => eb b o hb e) f0 f1 f3 f4 f5⟩
  self := fun _ _ _ _ _ st h => wpAny_pyIter_rangeiter st h
end L2

namespace L2
open PySem PySem.Spec PyProof.Rows
section
variable {X : Cx} {tg : Expr}
def iList (K : PySem.W.Frag) (tl : TE) : TI := fun σ H R => tl σ H fun x H1 => ∃ a, x = .ref a ∧ (∃ xs, SqL K H1 a xs) ∧ R (Itl K a) H1
def iTup (K : PySem.W.Frag) (tl : TE) : TI := fun σ H R => tl σ H fun x H1 => ∃ a, x = .ref a ∧ (∃ xs, SqT K H1 a xs) ∧ R (Itt K a) H1
theorem pi_list {l : Expr} {tl : TE} (hl : PE X l tl) : PI X tg l (iList X.K tl) := by
  intro pins s σ H R I h
  refine thn (hl pins s σ H _ I h) fun v s1 ⟨x, H1, I1, r1, q1⟩ => ?_
  obtain ⟨a, e, ⟨xs, hq⟩, q⟩ := q1
  subst e
  cases r1
  obtain ⟨its, rv, p, hz⟩ := I1.list hq
  refine wpAny_pyIter_list p.isList ?_
  refine ⟨s1.heap.objs.size, [s1.heap.objs.size], _, _, H1, rfl, I1.kept (t' := s1.toks) fun b o e => Heap.get?_push_of_some _ e, turn_list a _, ⟨_, Heap.get?_push_size _ rfl, rfl, rfl⟩, fun b hb => ?_, q⟩
  have e : b = s1.heap.objs.size := by simpa using hb
  subst e
  exact I1.fpOk (Nat.le_refl _) (I1.hok.fresh (Nat.le_refl _))
/-- a range object just made, walked -/
theorem range_it {pins : List (Addr × Obj)} {σ : St} {H : Hp} {s : Shared} {R : It → Hp → Prop} {E : Value → Shared → Prop} {lo hi : Int} {t u v : Tok} {tk : Nat} (I : Inv X pins σ H s) (h1 : -(2 ^ 62) ≤ lo) (h2 : lo < 2 ^ 62) (h3 : -(2 ^ 62) ≤ hi) (h4 : hi < 2 ^ 62)
    (q : R (Itr lo (hi - lo).toNat) H) : wpAny (model X.prog X.w) X.A (pyIter (.ref s.heap.objs.size)) (PIE X pins σ tg R) E { s with heap := s.heap.push { cls := .type "range", data := .fields #[.int lo t, .int hi u, .int 1 v] }, toks := tk } := by
  refine wpAny_pyIter_range (IsRange.new ..) (small_one h1 h2 h3 h4) ?_
  have I1 : Inv X pins σ H { s with heap := s.heap.push { cls := .type "range", data := .fields #[.int lo t, .int hi u, .int 1 v] }, toks := tk } := I.kept fun b o e => Heap.get?_push_of_some _ e
  refine ⟨(s.heap.push { cls := .type "range", data := .fields #[.int lo t, .int hi u, .int 1 v] }).objs.size, [(s.heap.push { cls := .type "range", data := .fields #[.int lo t, .int hi u, .int 1 v] }).objs.size], _, _, H, rfl,
    I1.kept (t' := tk) fun b o e => Heap.get?_push_of_some _ e, turn_range _ lo (hi - lo).toNat, ?_, fun b hb => ?_, q⟩
  · have e1 : lo + ((0 : Nat) : Int) * 1 = lo := by simp
    have e2 : (((hi - lo).toNat : Nat) : Int) - ((0 : Nat) : Int) = Builtin.Range.rangeSize lo hi 1 := by rw [rangeSize_one]; split <;> omega
    show IsRangeIter _ _ (lo + ((0 : Nat) : Int) * 1) ((((hi - lo).toNat : Nat) : Int) - ((0 : Nat) : Int)) 1
    rw [e1, e2]
    exact Heap.get?_push_size _ rfl
  · have e : b = (s.heap.push { cls := .type "range", data := .fields #[.int lo t, .int hi u, .int 1 v] }).objs.size := by simpa using hb
    subst e
    exact I1.fpOk (Nat.le_refl _) (I1.hok.fresh (Nat.le_refl _))
def iRng1 (ta : TA) : TI := fun σ H R => ta σ H fun vs H1 => ∃ j : Int, vs = [.int j] ∧ -(2 ^ 62) ≤ j ∧ j < 2 ^ 62 ∧ R (Itr 0 j.toNat) H1
def iRng2 (ta : TA) : TI := fun σ H R => ta σ H fun vs H1 => ∃ i j : Int, vs = [.int i, .int j] ∧ (-(2 ^ 62) ≤ i ∧ i < 2 ^ 62 ∧ -(2 ^ 62) ≤ j ∧ j < 2 ^ 62) ∧ R (Itr i (j - i).toNat) H1
theorem pi_range1 {a : Expr} {ta : TA} {p pos : Pos} (hg : Gl X "range") (hm : X.mg "range" = none) (ha : PA X [a] ta) (hs : starEach [a] X.env = [(false, eval a X.env)] := by rfl) : PI X tg (.Call (.Name "range" p) [a] [] pos) (iRng1 ta) := by
  intro pins s σ H R I h
  refine Call_ (ld_blt I hg hm boot_range (PyProof.Rows.callWith_type1 (thn (ha pos pins s σ H _ I h) fun us s1 ⟨vs, H1, I1, r1, q1⟩ => ?_) hs rfl))
  obtain ⟨j, e, q1, q2, q⟩ := q1
  subst e
  cases r1 with
  | cons r rr =>
    cases rr
    obtain ⟨t, rfl⟩ := r
    exact call_range_1 (range_it I1 (by omega) (by omega) q1 q2 (by simpa using q))
/-! ### for -/
/-- W: the invariant by the turn and a measure; N: what the body is to reach -/
def tFor (wi : TI) (g : TG) (tb : TS) : TS := fun D σ H => wi σ H fun J H1 => ∃ W : Nat → Nat → St → Hp → Prop, (∃ m, W 0 m σ H1) ∧ ∀ i m σ H, W i m σ H →
  (J.stop i H ∧ D.nx σ H) ∨ (J.go i H ∧ ∃ N : St → Hp → Prop, (∀ σ' H', N σ' H' → ∃ m', m' < m ∧ W (i + 1) m' σ' H') ∧ ∀ x H', J.yld i H x H' → g x σ H' fun σ2 H2 => tb { D with nx := N, ct := N, bk := D.nx } σ2 H2)
/-- the records at fp as they stand -/
def pinsAt (fp : List Addr) (h : Heap) : List (Addr × Obj) := fp.filterMap fun b => (h.get? b).map fun o => (b, o)
theorem mem_pinsAt {fp : List Addr} {h : Heap} {b : Addr} {o : Obj} (hb : b ∈ fp) (e : h.get? b = some o) : (b, o) ∈ pinsAt fp h := List.mem_filterMap.mpr ⟨b, hb, by rw [e]; rfl⟩
theorem of_pinsAt {fp : List Addr} {h : Heap} {p : Addr × Obj} (hp : p ∈ pinsAt fp h) : p.1 ∈ fp ∧ h.get? p.1 = some p.2 := by
  obtain ⟨b, hb, e⟩ := List.mem_filterMap.mp hp
  cases q : h.get? b with
  | none => rw [q] at e; cases e
  | some o =>
    rw [q] at e
    have e' : (b, o) = p := Option.some.inj e
    subst e'
    exact ⟨hb, q⟩
theorem Inv.pinned {pins : List (Addr × Obj)} {σ : St} {H : Hp} {s : Shared} {fp : List Addr} (I : Inv X pins σ H s) (hf : ∀ b ∈ fp, FpOk X pins H b) (ho : ∀ b ∈ fp, ∃ o, s.heap.get? b = some o ∧ ∀ v, o.data ≠ .cell v) : Inv X (pins ++ pinsAt fp s.heap) σ H s :=
  I.pins_of fun p hp => (List.mem_append.mp hp).elim (fun z => I.pin p (List.mem_append_right _ z)) fun z => by
    obtain ⟨hb, e⟩ := of_pinsAt z
    obtain ⟨f0, f1, f2, _⟩ := hf p.1 hb
    obtain ⟨o, e', d⟩ := ho p.1 hb
    rw [e] at e'; cases e'
    exact ⟨e, f0, f1, f2, d⟩
theorem Inv.unpinned {pins pl : List (Addr × Obj)} {σ : St} {H : Hp} {s : Shared} (I : Inv X (pins ++ pl) σ H s) : Inv X pins σ H s := I.pins_of fun p hp => I.pin p (List.mem_append_right _ (List.mem_append_left _ hp))
theorem ps_for {iter : Expr} {body : List Stmt} {wi : TI} {g : TG} {tb : TS} {pos : Pos} (hp : PassesOwn (model X.prog X.w) X.A X.env X.xe) (hc : X.calm = true) (hi : PI X tg iter wi) (hg : PG X tg g) (hb : PSs X body tb)
    (hs : ∀ x, foldedSetIterable iter X.env x = pure x := by intro _; rfl) : PS X (.For tg iter body [] pos) (tFor wi g tb) := by
  intro pins s σ H D I h
  refine wpAny_For (thn (hi pins s σ H _ I h) fun v s1 h1 => thn h1 fun itv s2 h2 => ?_) hs
  obtain ⟨it, fp, tn, J, H2, e, I2, T, st2, f2, W, ⟨m0, w0⟩, turn⟩ := h2
  subst e
  -- what stays true of the iterator's objects through the loop
  have stat : ∀ {H' : Hp}, (∀ b ∈ fp, H' b = none) → ∀ b ∈ fp, FpOk X pins H' b := fun hn b hb => ⟨hn b hb, (f2 b hb).2⟩
  refine codeAny_forLoop_any (fun n s' => ∃ i σ' H', Inv X pins σ' H' s' ∧ tn i s'.heap ∧ (∀ b ∈ fp, H' b = none) ∧ W i n σ' H') ?_ m0 ⟨0, σ, H2, I2, st2, fun b hb => (f2 b hb).1, w0⟩
  rintro n s3 ⟨i, σ3, H3, I3, st3, fr3, w3⟩
  rcases turn i n σ3 H3 w3 with ⟨stop, qn⟩ | ⟨go, N, hN, step⟩
  · refine wpAny_passesOwn hp (thn (T.done X rfl rfl rfl hc i pins s3 σ3 H3 X.xe I3 (stat fr3) st3 stop) fun r s4 ⟨hr, I4⟩ => ?_)
    subst hr
    exact wpAny_execs_nil ⟨σ3, H3, I4, qn⟩
  · refine wpAny_passesOwn hp (thn (T.item X rfl rfl rfl hc i pins s3 σ3 H3 X.xe I3 (stat fr3) st3 go) fun r s4 ⟨u, hr, h4⟩ => ?_)
    subst hr
    refine wpAny_passesOwn hp (thn h4 fun _ s5 ⟨x, H5, I5, r5, y5, st5, fr5⟩ => ?_)
    have I5' := I5.pinned (stat fr5) (T.obj _ _ st5)
    refine wpAny_passesOwn hp (thn (hg _ s5 σ3 H5 x u _ I5' r5 (step x H5 y5)) fun _ s6 ⟨σ6, H6, I6, q6⟩ => ?_)
    refine wpAny_passesOwn hp (thn (hb _ s6 σ6 H6 _ I6 q6) fun f s7 q7 => ?_)
    have again : ∀ {σ7 : St} {H7 : Hp}, Inv X (pins ++ pinsAt fp s5.heap) σ7 H7 s7 → N σ7 H7 → ∃ m, m < n ∧ ∃ i σ' H', Inv X pins σ' H' s7 ∧ tn i s7.heap ∧ (∀ b ∈ fp, H' b = none) ∧ W i m σ' H' := fun {σ7 H7} I7 n7 => by
      obtain ⟨m', hm, w7⟩ := hN σ7 H7 n7
      refine ⟨m', hm, i + 1, σ7, H7, I7.unpinned, T.keep _ _ _ st5 fun b hb o e => (I7.pin (b, o) (List.mem_append_right _ (List.mem_append_right _ (mem_pinsAt hb e)))).1, fun b hb => ?_, w7⟩
      obtain ⟨o, e, d⟩ := T.obj _ _ st5 b hb
      exact (I7.pin (b, o) (List.mem_append_right _ (List.mem_append_right _ (mem_pinsAt hb e)))).2.1
    cases f with
    | next => obtain ⟨σ7, H7, I7, n7⟩ := q7; exact again I7 n7
    | cont => obtain ⟨σ7, H7, I7, n7⟩ := q7; exact again I7 n7
    | brk => obtain ⟨σ7, H7, I7, q7⟩ := q7; exact ⟨σ7, H7, I7.unpinned, q7⟩
    | ret v => obtain ⟨x7, σ7, H7, I7, r7, q7⟩ := q7; exact ⟨x7, σ7, H7, I7.unpinned, r7, q7⟩
end

/-! ### the forms one uses -/
/-- over a list that the body leaves as it is -/
theorem for_list {K : PySem.W.Frag} {a : Addr} {xs : List V} {g : TG} {tb : TS} {D : Ends} {σ : St} {H : Hp} (Pv : Nat → St → Hp → Prop) (h0 : Pv 0 σ H) (hl : ∀ i σ H, i ≤ xs.length → Pv i σ H → SqL K H a xs)
    (hs : ∀ i x σ H, xs[i]? = some x → Pv i σ H → g x σ H fun σ2 H2 => tb { D with nx := Pv (i + 1), ct := Pv (i + 1), bk := D.nx } σ2 H2) (hd : ∀ σ H, Pv xs.length σ H → D.nx σ H) :
    ∃ W : Nat → Nat → St → Hp → Prop, (∃ m, W 0 m σ H) ∧ ∀ i m σ H, W i m σ H →
      ((Itl K a).stop i H ∧ D.nx σ H) ∨ ((Itl K a).go i H ∧ ∃ N : St → Hp → Prop, (∀ σ' H', N σ' H' → ∃ m', m' < m ∧ W (i + 1) m' σ' H') ∧ ∀ x H', (Itl K a).yld i H x H' → g x σ H' fun σ2 H2 => tb { D with nx := N, ct := N, bk := D.nx } σ2 H2) := by
  refine ⟨fun i m σ H => m = xs.length - i ∧ i ≤ xs.length ∧ Pv i σ H, ⟨xs.length, by simp, Nat.zero_le _, h0⟩, ?_⟩
  rintro i m σ H ⟨rfl, hi, p⟩
  have q := hl i σ H hi p
  by_cases hlt : i < xs.length
  · refine .inr ⟨⟨xs, xs[i], q, by simp [hlt]⟩, Pv (i + 1), fun σ' H' p' => ⟨xs.length - (i + 1), by omega, rfl, hlt, p'⟩, fun x H' y => ?_⟩
    obtain ⟨e, y⟩ := y
    subst e
    exact hs i x σ _ (y xs q) p
  · have e : i = xs.length := by omega
    subst e
    exact .inl ⟨⟨xs, q, Nat.le_refl _⟩, hd σ H p⟩
theorem for_range {lo : Int} {n : Nat} {g : TG} {tb : TS} {D : Ends} {σ : St} {H : Hp} (Pv : Nat → St → Hp → Prop) (h0 : Pv 0 σ H)
    (hs : ∀ i σ H, i < n → Pv i σ H → g (.int (lo + i)) σ H fun σ2 H2 => tb { D with nx := Pv (i + 1), ct := Pv (i + 1), bk := D.nx } σ2 H2) (hd : ∀ σ H, Pv n σ H → D.nx σ H) :
    ∃ W : Nat → Nat → St → Hp → Prop, (∃ m, W 0 m σ H) ∧ ∀ i m σ H, W i m σ H →
      ((Itr lo n).stop i H ∧ D.nx σ H) ∨ ((Itr lo n).go i H ∧ ∃ N : St → Hp → Prop, (∀ σ' H', N σ' H' → ∃ m', m' < m ∧ W (i + 1) m' σ' H') ∧ ∀ x H', (Itr lo n).yld i H x H' → g x σ H' fun σ2 H2 => tb { D with nx := N, ct := N, bk := D.nx } σ2 H2) := by
  refine ⟨fun i m σ H => m = n - i ∧ i ≤ n ∧ Pv i σ H, ⟨n, by simp, Nat.zero_le _, h0⟩, ?_⟩
  rintro i m σ H ⟨rfl, hi, p⟩
  by_cases hlt : i < n
  · refine .inr ⟨hlt, Pv (i + 1), fun σ' H' p' => ⟨n - (i + 1), by omega, rfl, hlt, p'⟩, fun x H' y => ?_⟩
    obtain ⟨e, y⟩ := y
    subst e y
    exact hs i σ _ hlt p
  · have e : i = n := by omega
    subst e
    exact .inl ⟨Nat.le_refl _, hd σ H p⟩
end L2

namespace L2
open PySem PySem.Spec PyProof.Rows

abbrev R2 := V → V → Hp → VK → Prop
/-- a two-place operation on values: f is binaryOp op, inplaceOp op or compareOp op -/
def OpR (X : Cx) (f : Value → Value → Sem Value) (r : R2) : Prop :=
  ∀ (pins : List (Addr × Obj)) (s : Shared) (σ : St) (H : Hp) (x y : V) (v u : Value) (Q : VK), Inv X pins σ H s → RelV x v → RelV y u → r x y H Q →
    wpAny (model X.prog X.w) X.A (f v u) (EP X pins σ Q) X.xe s
/-- a one-place operation -/
def UnR (X : Cx) (f : Value → Sem Value) (r : V → Hp → VK → Prop) : Prop :=
  ∀ (pins : List (Addr × Obj)) (s : Shared) (σ : St) (H : Hp) (x : V) (v : Value) (Q : VK), Inv X pins σ H s → RelV x v → r x H Q →
    wpAny (model X.prog X.w) X.A (f v) (EP X pins σ Q) X.xe s
/-- a call of a value that is known (a builtin, a type) with values -/
def CallR (X : Cx) (f : Value) (r : List V → Hp → VK → Prop) : Prop :=
  ∀ (pins : List (Addr × Obj)) (s : Shared) (σ : St) (H : Hp) (xs : List V) (us : List Value) (Q : VK), Inv X pins σ H s → Vals xs us → r xs H Q →
    wpAny (model X.prog X.w) X.A (call f us) (EP X pins σ Q) X.xe s
/-- a value's truth -/
def TruR (X : Cx) (r : V → Hp → (Bool → Hp → Prop) → Prop) : Prop :=
  ∀ (pins : List (Addr × Obj)) (s : Shared) (σ : St) (H : Hp) (x : V) (v : Value) (Q : Bool → Hp → Prop), Inv X pins σ H s → RelV x v → r x H Q →
    wpAny (model X.prog X.w) X.A (truthy v) (TP X pins σ Q) X.xe s

def tOp (r : R2) (ta tb : TE) : TE := fun σ H Q => ta σ H fun x H1 => tb σ H1 fun y H2 => r x y H2 Q
def tUn (r : V → Hp → VK → Prop) (ta : TE) : TE := fun σ H Q => ta σ H fun x H1 => r x H1 Q
/-- ints in, under C, and a value out -/
def rI (C : Int → Int → Prop) (g : Int → Int → V) : R2 := fun x y H Q => ∃ i j, x = .int i ∧ y = .int j ∧ C i j ∧ Q (g i j) H
def rI0 (g : Int → Int → V) : R2 := fun x y H Q => ∃ i j, x = .int i ∧ y = .int j ∧ Q (g i j) H
def rU (g : Int → V) : V → Hp → VK → Prop := fun x H Q => ∃ i, x = .int i ∧ Q (g i) H

section
variable {X : Cx} {a b c : Expr} {ta tb tc : TE} {pos : Pos}

theorem binT (ha : PE X a ta) (hb : PE X b tb) {pins : List (Addr × Obj)} {s : Shared} {σ : St} {H : Hp} {R : V → V → Hp → Prop} (I : Inv X pins σ H s)
    (h : ta σ H fun x H1 => tb σ H1 fun y H2 => R x y H2) {Q : Value → Shared → Prop} {f : Value → Value → Sem Value}
    (hf : ∀ v u s2 x y H2, Inv X pins σ H2 s2 → RelV x v → RelV y u → R x y H2 → wpAny (model X.prog X.w) X.A (f v u) Q X.xe s2) :
    wpAny (model X.prog X.w) X.A (eval a X.env) (fun v s₁ => wpAny (model X.prog X.w) X.A (eval b X.env) (fun u s₂ => wpAny (model X.prog X.w) X.A (f v u) Q X.xe s₂) X.xe s₁) X.xe s := by
  refine thn (ha pins s σ H _ I h) fun v s1 ⟨x, H1, I1, r1, q1⟩ => ?_
  refine thn (hb pins s1 σ H1 _ I1 q1) fun u s2 ⟨y, H2, I2, r2, q2⟩ => ?_
  exact hf v u s2 x y H2 I2 r1 r2 q2

theorem pe_op {op : Operator} {r : R2} (ho : OpR X (binaryOp op) r) (ha : PE X a ta) (hb : PE X b tb) : PE X (.BinOp a op b pos) (tOp r ta tb) := by
  intro pins s σ H Q I h
  exact wpAny_BinOp (binT ha hb I h fun v u s2 x y H2 I2 rx ry q => ho pins s2 σ H2 x y v u Q I2 rx ry q)
/-! ### ints -/
theorem opI {f : Value → Value → Sem Value} {C : Int → Int → Prop} {g : Int → Int → Int}
    (rule : ∀ (i j : Int) (t u : Tok) (s : Shared) (Q : Value → Shared → Prop) (E : Value → Shared → Prop), C i j → Q (.int (g i j) s.toks) { s with toks := s.toks + 1 } → wpAny (model X.prog X.w) X.A (f (.int i t) (.int j u)) Q E s) :
    OpR X f (rI C fun i j => .int (g i j)) := by
  intro pins s σ H x y v u Q I rx ry h
  obtain ⟨i, j, rfl, rfl, hc, q⟩ := h
  obtain ⟨t, rfl⟩ := rx
  obtain ⟨t', rfl⟩ := ry
  exact rule i j t t' s _ _ hc ⟨.int (g i j), H, I.tok _, ⟨_, rfl⟩, q⟩
theorem opI0 {f : Value → Value → Sem Value} {g : Int → Int → Int}
    (rule : ∀ (i j : Int) (t u : Tok) (s : Shared) (Q : Value → Shared → Prop) (E : Value → Shared → Prop), Q (.int (g i j) s.toks) { s with toks := s.toks + 1 } → wpAny (model X.prog X.w) X.A (f (.int i t) (.int j u)) Q E s) :
    OpR X f (rI0 fun i j => .int (g i j)) := by
  intro pins s σ H x y v u Q I rx ry h
  obtain ⟨i, j, rfl, rfl, q⟩ := h
  obtain ⟨t, rfl⟩ := rx
  obtain ⟨t', rfl⟩ := ry
  exact rule i j t t' s _ _ ⟨.int (g i j), H, I.tok _, ⟨_, rfl⟩, q⟩
theorem opB0 {f : Value → Value → Sem Value} {g : Int → Int → Bool}
    (rule : ∀ (i j : Int) (t u : Tok) (s : Shared) (Q : Value → Shared → Prop) (E : Value → Shared → Prop), Q (.bool (g i j)) s → wpAny (model X.prog X.w) X.A (f (.int i t) (.int j u)) Q E s) :
    OpR X f (rI0 fun i j => .bl (g i j)) := by
  intro pins s σ H x y v u Q I rx ry h
  obtain ⟨i, j, rfl, rfl, q⟩ := h
  obtain ⟨t, rfl⟩ := rx
  obtain ⟨t', rfl⟩ := ry
  exact rule i j t t' s _ _ ⟨.bl (g i j), H, I, rfl, q⟩

def CDiv (i j : Int) : Prop := 0 < j ∧ j < 1073741824
def CDivN (i j : Int) : Prop := j ≠ 0 ∧ j.natAbs < 1073741824
def CPow (i j : Int) : Prop := 0 ≤ j ∧ j ≤ 1000000 ∧ i.natAbs < 2 ^ 64
def CMul (i j : Int) : Prop := (-(2 ^ 64) < i ∧ i < 2 ^ 64) ∨ (-(2 ^ 64) < j ∧ j < 2 ^ 64)
theorem CMul.ok {i j : Int} (h : CMul i j) : IntMulOk i j := by
  rcases h with ⟨h1, h2⟩ | ⟨h1, h2⟩
  · exact .of_left (intBits_le_64 h1 h2)
  · exact .of_right (intBits_le_64 h1 h2)
theorem op_add : OpR X (binaryOp .Add) (rI0 fun i j => .int (i + j)) := opI0 fun _ _ _ _ _ _ _ q => add_int q
theorem op_sub : OpR X (binaryOp .Sub) (rI0 fun i j => .int (i - j)) := opI0 fun _ _ _ _ _ _ _ q => sub_int q
theorem op_mul : OpR X (binaryOp .Mult) (rI CMul fun i j => .int (i * j)) := opI fun _ _ _ _ _ _ _ hc q => mul_int q hc.ok
/-- // by a positive divisor -/
theorem op_fdiv : OpR X (binaryOp .FloorDiv) (rI CDiv fun i j => .int (i / j)) := opI fun i j _ _ _ _ _ hc q => by
  have h1 : (0 : Int) < j := hc.1
  have h2 : j < 1073741824 := hc.2
  exact floordiv_int (by omega) (by rw [Int.fdiv_eq_ediv_of_nonneg i (by omega)]; exact q) (.inl (PyProof.noPylong_small (by omega)))
/-- % by a positive divisor of any size -/
theorem op_mod : OpR X (binaryOp .Mod) (rI (fun _ j => 0 < j) fun i j => .int (i % j)) := opI fun i j _ _ _ _ _ hc q => by
  have h1 : (0 : Int) < j := hc
  exact mod_int' (by omega) (by rw [Int.fmod_eq_emod_of_nonneg i (by omega)]; exact q)
/-! ### bools among ints: n += (a < b) -/
end

/-! ### comparisons -/
/-- the scalars that == tells apart as data does -/
def scal : V → V → Bool
  | .non, .non => true | .non, .int _ => true | .int _, .non => true | .non, .bl _ => true | .bl _, .non => true | .non, .str _ => true | .str _, .non => true
  | .int _, .int _ => true | .bl _, .bl _ => true | .str _, .str _ => true | .byt _, .byt _ => true
  | .int _, .str _ => true | .str _, .int _ => true | .bl _, .str _ => true | .str _, .bl _ => true
  | _, _ => false
def rEq : R2 := fun x y H Q => scal x y = true ∧ Q (.bl (decide (x = y))) H
def rNe : R2 := fun x y H Q => scal x y = true ∧ Q (.bl (!decide (x = y))) H

theorem dec_int {i j : Int} : decide (V.int i = V.int j) = (i == j) := by
  rw [Bool.eq_iff_iff]
  simp
theorem dec_bl {i j : Bool} : decide (V.bl i = V.bl j) = (i == j) := by
  rw [Bool.eq_iff_iff]
  simp
theorem dec_str {i j : Str} : decide (V.str i = V.str j) = (i == j) := by
  rw [Bool.eq_iff_iff]
  simp
theorem dec_byt {i j : Array UInt8} : decide (V.byt i = V.byt j) = (i.toList == j.toList) := by
  rw [Bool.eq_iff_iff]
  cases i
  cases j
  simp

section
variable {X : Cx} {a b c : Expr} {ta tb tc : TE} {pos : Pos}
theorem fin_bl {pins : List (Addr × Obj)} {σ : St} {H : Hp} {s : Shared} {Q : VK} {k k' : Bool} (I : Inv X pins σ H s) (q : Q (.bl k) H) (e : k = k') : EP X pins σ Q (.bool k') s := by
  subst e
  exact ⟨.bl k, H, I, rfl, q⟩
theorem op_eq : OpR X (compareOp .Eq) rEq := by
  intro pins s σ H x y v u Q I rx ry h
  obtain ⟨hs, q⟩ := h
  cases x with
  | non =>
    cases rx
    cases y with
    | non => cases ry; exact PySem.EqNone.eq_none_none (fin_bl I q (by simp))
    | bl j => cases ry; exact PySem.EqNone.eq_none_bool (fin_bl I q (by simp))
    | int j => obtain ⟨t', rfl⟩ := ry; exact PySem.EqNone.eq_none_int (fin_bl I q (by simp))
    | str j => obtain ⟨t', rfl⟩ := ry; exact PySem.EqNone.eq_none_str (fin_bl I q (by simp))
    | _ => exact absurd (show false = true from hs) Bool.false_ne_true
  | bl i =>
    cases rx
    cases y with
    | non => cases ry; exact PySem.EqNone.eq_bool_none (fin_bl I q (by simp))
    | bl j => cases ry; exact eq_bool (fin_bl I q dec_bl)
    | str j => obtain ⟨t', rfl⟩ := ry; exact PySem.EqMixed.eq_bool_str (fin_bl I q (by simp))
    | _ => exact absurd (show false = true from hs) Bool.false_ne_true
  | int i =>
    obtain ⟨t, rfl⟩ := rx
    cases y with
    | non => cases ry; exact PySem.EqNone.eq_int_none (fin_bl I q (by simp))
    | int j => obtain ⟨t', rfl⟩ := ry; exact eq_int (fin_bl I q dec_int)
    | str j => obtain ⟨t', rfl⟩ := ry; exact PySem.EqMixed.eq_int_str (fin_bl I q (by simp))
    | _ => exact absurd (show false = true from hs) Bool.false_ne_true
  | str i =>
    obtain ⟨t, rfl⟩ := rx
    cases y with
    | non => cases ry; exact PySem.EqNone.eq_str_none (fin_bl I q (by simp))
    | bl j => cases ry; exact PySem.EqMixed.eq_str_bool (fin_bl I q (by simp))
    | int j => obtain ⟨t', rfl⟩ := ry; exact PySem.EqMixed.eq_str_int (fin_bl I q (by simp))
    | str j => obtain ⟨t', rfl⟩ := ry; exact eq_str (fin_bl I q dec_str)
    | _ => exact absurd (show false = true from hs) Bool.false_ne_true
  | byt i =>
    obtain ⟨t, rfl⟩ := rx
    cases y with
    | byt j => obtain ⟨t', rfl⟩ := ry; exact PySem.W.eq_bytes (fin_bl I q dec_byt)
    | _ => exact absurd (show false = true from hs) Bool.false_ne_true
  | _ => cases y <;> exact absurd (show false = true from hs) Bool.false_ne_true
theorem op_ne : OpR X (compareOp .NotEq) rNe := by
  intro pins s σ H x y v u Q I rx ry h
  obtain ⟨hs, q⟩ := h
  cases x with
  | non =>
    cases rx
    cases y with
    | non => cases ry; exact PySem.EqNone.ne_none_none (fin_bl I q (by simp))
    | bl j => cases ry; exact PySem.EqNone.ne_none_bool (fin_bl I q (by simp))
    | int j => obtain ⟨t', rfl⟩ := ry; exact PySem.EqNone.ne_none_int (fin_bl I q (by simp))
    | str j => obtain ⟨t', rfl⟩ := ry; exact PySem.EqNone.ne_none_str (fin_bl I q (by simp))
    | _ => exact absurd (show false = true from hs) Bool.false_ne_true
  | bl i =>
    cases rx
    cases y with
    | non => cases ry; exact PySem.EqNone.ne_bool_none (fin_bl I q (by simp))
    | bl j => cases ry; exact ne_bool (fin_bl I q (congrArg not dec_bl))
    | str j => obtain ⟨t', rfl⟩ := ry; exact PySem.EqMixed.ne_bool_str (fin_bl I q (by simp))
    | _ => exact absurd (show false = true from hs) Bool.false_ne_true
  | int i =>
    obtain ⟨t, rfl⟩ := rx
    cases y with
    | non => cases ry; exact PySem.EqNone.ne_int_none (fin_bl I q (by simp))
    | int j => obtain ⟨t', rfl⟩ := ry; exact ne_int (fin_bl I q (congrArg not dec_int))
    | str j => obtain ⟨t', rfl⟩ := ry; exact PySem.EqMixed.ne_int_str (fin_bl I q (by simp))
    | _ => exact absurd (show false = true from hs) Bool.false_ne_true
  | str i =>
    obtain ⟨t, rfl⟩ := rx
    cases y with
    | non => cases ry; exact PySem.EqNone.ne_str_none (fin_bl I q (by simp))
    | bl j => cases ry; exact PySem.EqMixed.ne_str_bool (fin_bl I q (by simp))
    | int j => obtain ⟨t', rfl⟩ := ry; exact PySem.EqMixed.ne_str_int (fin_bl I q (by simp))
    | str j => obtain ⟨t', rfl⟩ := ry; exact ne_str (fin_bl I q (congrArg not dec_str))
    | _ => exact absurd (show false = true from hs) Bool.false_ne_true
  | byt i =>
    obtain ⟨t, rfl⟩ := rx
    cases y with
    | byt j => obtain ⟨t', rfl⟩ := ry; exact PySem.W.ne_bytes (fin_bl I q (congrArg not dec_byt))
    | _ => exact absurd (show false = true from hs) Bool.false_ne_true
  | _ => cases y <;> exact absurd (show false = true from hs) Bool.false_ne_true

theorem op_lt : OpR X (compareOp .Lt) (rI0 fun i j => .bl (decide (i < j))) := opB0 fun _ _ _ _ _ _ _ q => lt_int q
theorem op_le : OpR X (compareOp .LtE) (rI0 fun i j => .bl (decide (i ≤ j))) := opB0 fun _ _ _ _ _ _ _ q => le_int q
theorem op_gt : OpR X (compareOp .Gt) (rI0 fun i j => .bl (decide (j < i))) := opB0 fun _ _ _ _ _ _ _ q => gt_int q
/-- is None, is not None: the right side a value none -/
theorem op_isN : OpR X (compareOp .Is) (fun x y H Q => y = .non ∧ Q (.bl (decide (x = .non))) H) := by
  intro pins s σ H x y v u Q I rx ry h
  obtain ⟨rfl, q⟩ := h
  cases ry
  refine is_none_gen (fin_bl I q ?_)
  cases x <;> first
    | (cases rx; rfl)
    | (obtain ⟨t, rfl⟩ := rx; rfl)
theorem op_notN : OpR X (compareOp .IsNot) (fun x y H Q => y = .non ∧ Q (.bl (!decide (x = .non))) H) := by
  intro pins s σ H x y v u Q I rx ry h
  obtain ⟨rfl, q⟩ := h
  cases ry
  refine isnot_none_gen (fin_bl I q ?_)
  cases x <;> first
    | (cases rx; rfl)
    | (obtain ⟨t, rfl⟩ := rx; rfl)

/-- is, is not of two objects that are tracked lists or instances -/
def isObj : HO → Bool
  | .lst _ => true
  | .ins _ _ _ => true
  | _ => false
theorem nomark (b : Expr) {op : CmpOp} (h : op ≠ .In := by decide) (h2 : op ≠ .NotIn := by decide) : behindInMarks op b = false := by
  have e1 : (op == CmpOp.In) = false := by cases op <;> first | rfl | exact absurd rfl h
  have e2 : (op == CmpOp.NotIn) = false := by cases op <;> first | rfl | exact absurd rfl h2
  cases b <;> simp [behindInMarks, e1, e2]
/-- a comparison as a value; hm: nomark b, or (for in, not in) by with_unfolding_all rfl -/
theorem pe_cmpR {op : CmpOp} {r : R2} (ho : OpR X (compareOp op) r) (ha : PE X a ta) (hb : PE X b tb) (hm : behindInMarks op b = false) : PE X (.Compare a [op] [b] pos) (tOp r ta tb) := by
  intro pins s σ H Q I h
  exact wpAny_Compare1 (binT ha hb I h fun v u s2 x y H2 I2 rx ry q => ho pins s2 σ H2 x y v u Q I2 rx ry q) hm
/-- a reading of a value as a test -/
def tTest (t : TE) : TT := fun σ H Q => t σ H fun x H' => ∃ k, x = .bl k ∧ Q k H'
theorem pt_cmpR {op : CmpOp} {r : R2} (ho : OpR X (compareOp op) r) (ha : PE X a ta) (hb : PE X b tb) (hm : behindInMarks op b = false) : PT X (.Compare a [op] [b] pos) (tTest (tOp r ta tb)) := by
  intro pins s σ H Q I h
  refine wpAny_isTrue_Compare1 (thn (ha pins s σ H _ I h) fun v s1 ⟨x, H1, I1, r1, q1⟩ => thn (hb pins s1 σ H1 _ I1 q1) fun u s2 ⟨y, H2, I2, r2, q2⟩ =>
    thn (ho pins s2 σ H2 x y v u _ I2 r1 r2 q2) fun c s3 ⟨z, H3, I3, r3, k, e, q3⟩ => ?_) hm
  subst e
  cases r3
  exact wpAny_truthy_bool ⟨H3, I3, q3⟩
/-- a op1 b op2 c -/
def tChain (r r' : R2) (ta tb tc : TE) : TE := fun σ H Q => ta σ H fun x H1 => tb σ H1 fun y H2 => r x y H2 fun z H3 => ∃ k, z = .bl k ∧
  (if k = true then tc σ H3 fun w' H4 => r' y w' H4 Q else Q (.bl false) H3)
theorem pt_chain {op op' : CmpOp} {r r' : R2} (ho : OpR X (compareOp op) r) (ho' : OpR X (compareOp op') r') (ha : PE X a ta) (hb : PE X b tb) (hc : PE X c tc)
    (hm : lastMarks [op, op'] [b, c] = false := by with_unfolding_all rfl) : PT X (.Compare a [op, op'] [b, c] pos) (tTest (tChain r r' ta tb tc)) := by
  intro pins s σ H Q I h
  refine isTrue_chain (thn (ha pins s σ H _ I h) fun v s1 ⟨x, H1, I1, r1, q1⟩ => test_link (thn (hb pins s1 σ H1 _ I1 q1) fun u s2 ⟨y, H2, I2, r2, q2⟩ =>
    thn (ho pins s2 σ H2 x y v u _ I2 r1 r2 q2) fun d s3 ⟨z, H3, I3, r3, k, e, q3⟩ => ?_)) hm
  subst e
  cases r3
  refine wpAny_truthy_bool ?_
  cases k with
  | false =>
    obtain ⟨k', e', q'⟩ := q3
    cases e'
    exact ite_ff ⟨H3, I3, q'⟩
  | true =>
    refine ite_tt (test_last (thn (hc pins s3 σ H3 _ I3 q3) fun w' s4 ⟨z', H4, I4, r4, q4⟩ => thn (ho' pins s4 σ H4 y z' u w' _ I4 r2 r4 q4) fun d' s5 ⟨z2, H5, I5, r5, k2, e2, q5⟩ => ?_))
    subst e2
    cases r5
    exact wpAny_truthy_bool ⟨H5, I5, q5⟩

/-! ### truth -/
/-- a value's truth by the abstract heap -/
def TruV (K : PySem.W.Frag) (x : V) (H : Hp) (k : Bool) : Prop :=
  match x with
  | .non => k = false
  | .bl b => k = b
  | .int i => k = (i != 0)
  | .str y => y.length ≤ sizeLine ∧ k = ((y.length : Int) != 0)
  | .byt y => y.size ≤ sizeLine ∧ k = ((y.size : Int) != 0)
  | .ref p => (∃ xs, SqL K H p xs ∧ k = !xs.isEmpty) ∨ (∃ xs, SqT K H p xs ∧ k = !xs.isEmpty) ∨ ∃ kvs, H p = some (.dK kvs) ∧ k = !kvs.isEmpty
  | _ => False
theorem line63 : (sizeLine : Nat) < 2 ^ 63 := by rw [sizeLine_eq]; decide
/-! ### strs and bytes -/
def PlainIxT (b : Expr) : Prop := ∀ o i, subscripted b false o i = operate [o, i] (getItem o i)
/-! ### scalar builtins, by CallR -/
theorem vals1 {x : V} {us : List Value} (r : Vals [x] us) : ∃ u, us = [u] ∧ RelV x u := by
  cases r with
  | cons r1 r2 => cases r2; exact ⟨_, rfl, r1⟩
theorem vals2 {x y : V} {us : List Value} (r : Vals [x, y] us) : ∃ u w', us = [u, w'] ∧ RelV x u ∧ RelV y w' := by
  cases r with
  | cons r1 r2 =>
    cases r2 with
    | cons r3 r4 => cases r4; exact ⟨_, _, rfl, r1, r3⟩
theorem call_min2 (hc : X.calm = true) : CallR X (.builtin "min") (fun xs H Q => ∃ i j, xs = [.int i, .int j] ∧ Q (.int (if j < i then j else i)) H) := by
  intro pins s σ H xs us Q I r h
  obtain ⟨i, j, rfl, q⟩ := h
  obtain ⟨u, w', rfl, ⟨t, rfl⟩, ⟨t', rfl⟩⟩ := vals2 r
  refine min_two_ints (I.ok.hd hc) fun h' tk k => ⟨_, H, I.kept k, ?_, q⟩
  by_cases hj : j < i
  · rw [if_pos hj, if_pos hj]; exact ⟨_, rfl⟩
  · rw [if_neg hj, if_neg hj]; exact ⟨_, rfl⟩
/-- len of a str, a bytes, a list, a tuple -/
def LenV (K : PySem.W.Frag) (x : V) (H : Hp) (n : Nat) : Prop :=
  match x with
  | .str y => y.length ≤ sizeLine ∧ n = y.length
  | .byt y => y.size ≤ sizeLine ∧ n = y.size
  | .ref p => (∃ xs, SqL K H p xs ∧ n = xs.length) ∨ ∃ xs, SqT K H p xs ∧ n = xs.length
  | _ => False
end
end L2

namespace L2
open PySem PySem.Spec PyProof.Rows

/-! ### an instance, its attributes a map -/
structure ObjM (h : Heap) (x dx C : Addr) (mA : Str → Option Value) : Prop where
  obj : h.get? x = some (PySem.W.instObj C dx)
  ns : h.Ns1 dx mA
  ne : dx ≠ x

theorem lookIn_ns {h : Heap} {dx : Addr} {mA : Str → Option Value} (n : h.Ns1 dx mA) : ∃ od, h.get? dx = some od ∧ ∀ name, PySem.W.lookIn name od = some (mA name) := by
  obtain ⟨o, es, ep, ho, hd, hk, _, hm⟩ := n
  refine ⟨o, ho, fun name => ?_⟩
  have e := hm name
  unfold nsFind findBy at e
  rw [← Array.find?_toList] at e
  unfold PySem.W.lookIn
  rw [hd]
  dsimp only
  split
  · rename_i y q
    rw [q] at e
    exact congrArg some e
  · rename_i q
    rw [q] at e
    have a : es.toList.any (·.refKey) = false := by
      rw [List.any_eq_false]
      intro y hy
      obtain ⟨z, t, hkey⟩ := hk y (Array.mem_toList_iff.mp hy)
      simp [DictEntry.refKey, hkey]
    have a' : ¬ es.toList.any (·.refKey) = true := by rw [a]; exact Bool.false_ne_true
    rw [if_neg a']
    exact congrArg some e

theorem ObjM.look {h : Heap} {x dx C : Addr} {mA : Str → Option Value} (I : ObjM h x dx C mA) : ∃ od, PySem.W.InstAt h x (PySem.W.instObj C dx) C (some od) ∧ ∀ name, PySem.W.lookIn name od = some (mA name) :=
  let ⟨od, ho, hl⟩ := lookIn_ns I.ns
  ⟨od, ⟨I.obj, rfl, rfl, ho⟩, hl⟩

section
variable {prog : Program} {w : World} {A : Around} {E : Value → Shared → Prop} {s : Shared} {K : PySem.W.Frag} {x dx C f : Addr} {mA : Str → Option Value} {name : Str} {v : Value}

theorem get_map {expr : Bool} {Q : Value → Shared → Prop} (X : K.In s.heap) (I : ObjM s.heap x dx C mA) (hg : PySem.W.plainGet K C name = true) (hh : PySem.W.hasDictIn K C = true)
    (ha : PySem.W.findIn K (.ref C) name = some none) (hv : mA name = some v) (hv' : PySem.W.handedIn v = true) (h : Q v { s with toks := s.toks + 1 }) :
    wpAny (model prog w) A (getAttr (.ref x) name expr) Q E s := by
  obtain ⟨od, J, hl⟩ := I.look
  exact PySem.W.get_value X J (PySem.W.plainGet_of hg).1 (PySem.W.findObj_own hh ha rfl (by rw [hl, hv])) hv' h

theorem get_meth {pl : Sem Bool} {Q : Value × List Value → Shared → Prop} (X : K.In s.heap) (I : ObjM s.heap x dx C mA) (hg : PySem.W.plainGet K C name = true)
    (hf : PySem.W.findIn K (.ref C) name = some (some (.ref f))) (ht : PySem.W.isFn K (.ref f) = true) (hv : mA name = none) (h : Q (.ref f, [.ref x]) s) :
    wpAny (model prog w) A (getMethod (.ref x) name pl) Q E s := by
  obtain ⟨od, J, hl⟩ := I.look
  exact PySem.W.method_fn X J (PySem.W.plainGet_of hg).1 (PySem.W.plainGet_of hg).2 hf (beq_iff_eq.mp ht) (by show (PySem.W.lookIn name od).map (·.isSome) = some false; rw [hl, hv]; rfl) h

theorem set_map {ns : List Str} {Q : Unit → Shared → Prop} (X : K.In s.heap) (I : ObjM s.heap x dx C mA)
    (hs : PySem.W.findIn K (.ref C) "__setattr__" = some (some (.builtin "object.__setattr__"))) (hp : PySem.W.plainOver K C = true) (ht : PySem.W.takerIn K C name = some none) (hh : PySem.W.hasDictIn K C = true)
    (hw : PySem.Within mA ns) (hsz : ns.length ≤ sizeLine)
    (h : ∀ h', ObjM h' x dx C (fun y => if y = name then some v else mA y) → Heap.SameBut dx s.heap h' → Q () { s with heap := h', toks := s.toks + 2 }) :
    wpAny (model prog w) A (setAttr (.ref x) name v) Q E s := by
  obtain ⟨od, J, hl⟩ := I.look
  refine PySem.W.set_plain X J hs (PySem.W.osa_open (s := { s with toks := s.toks + 1 }) (r := none) X J hp ht fun b => ?_)
  obtain ⟨cd, hc, hd'⟩ := PySem.W.any_some hh
  have hx : s.heap.get? x = some ⟨.ref C, some dx, .plain, #[]⟩ := I.obj
  refine wpAny_bind (wpAny_pure (wpAny_bind (wpAny_bind (wpAny_loadPart hx (wpAny_bind (PySem.W.Looks.here (s := { s with toks := s.toks + 1 }) (PySem.W.looks_clsIn X hc) ?_))))))
  rw [hd']
  refine wpAny_pure (a := some dx) (wpAny_bind (wpAny_pure (wpAny_bind ?_)))
  refine wpAny_nsSet1 (s := { s with toks := s.toks + 1 }) I.ns fun h' hn2 hs2 => ?_
  obtain ⟨oD, esD, epD, hoD, hdD, hcD⟩ := hn2.count (PySem.Within.cons name v hw)
  refine wpAny_bind (wpAny_lookBehind hoD (by rw [hdD]; exact pastItsLine_dict (Nat.le_trans hcD (by rw [List.length_cons]; omega))) ?_)
  exact wpAny_pure (h _ ⟨(hs2.2 _ (Ne.symm I.ne)).trans I.obj, hn2, I.ne⟩ hs2)

/-- C(..): the dict at the heap's end, the instance behind it; then its __init__ -/
theorem make_map {R : Result → Shared → Prop} {vs : List Value} {kw : List (Str × Value)} (X : K.In s.heap) (hm : PySem.W.makesIn K C = true)
    (hi : PySem.W.findIn K (.ref C) "__init__" = some (some (.ref f))) (hf : PySem.W.typeIn K (.ref f) = some (.type "function"))
    (h : codeAny (model prog w) (A.under (.builtin "type.__call__" ⟨.ref C :: vs, kw⟩)) (.call (.ref f) ⟨.ref (s.heap.objs.size + 1) :: vs, kw⟩) (PySem.W.InitBack (s.heap.objs.size + 1) R)
      { s with heap := (s.heap.push PySem.W.emptyDict).push (PySem.W.instObj C s.heap.objs.size) }) :
    codeAny (model prog w) A (.call (.ref C) ⟨vs, kw⟩) R s := by
  obtain ⟨hh, g, d, t, os⟩ := s
  exact PySem.W.make_core (PySem.W.makes_of X hm) (PySem.W.looks_findIn X hi) (fun self => PySem.W.bind_fn X self hf) (.inl rfl) h
end

/-! ### the attributes as a list of pairs -/
def putF (f : Str) (v : V) : List (Str × V) → List (Str × V)
  | [] => [(f, v)]
  | (g, x) :: r => if g = f then (g, v) :: r else (g, x) :: putF f v r
theorem lookup_putF (f g : Str) (v : V) : ∀ fs : List (Str × V), (putF f v fs).lookup g = if g = f then some v else fs.lookup g
  | [] => by
    show List.lookup g [(f, v)] = _
    by_cases h : g = f
    · have hb : (g == f) = true := beq_iff_eq.mpr h
      simp only [List.lookup, hb, if_pos h]
    · have hb : (g == f) = false := beq_eq_false_iff_ne.mpr h
      simp only [List.lookup, hb, if_neg h]
  | (k, x) :: r => by
    have ih := lookup_putF f g v r
    rw [show putF f v ((k, x) :: r) = (if k = f then (k, v) :: r else (k, x) :: putF f v r) from rfl]
    by_cases hk : k = f
    · rw [if_pos hk]
      by_cases h : g = k
      · have hb : (g == k) = true := beq_iff_eq.mpr h
        simp only [List.lookup, hb, if_pos (h.trans hk)]
      · have hb : (g == k) = false := beq_eq_false_iff_ne.mpr h
        simp only [List.lookup, hb, if_neg (fun e : g = f => h (e.trans hk.symm))]
    · rw [if_neg hk]
      by_cases h : g = k
      · have hb : (g == k) = true := beq_iff_eq.mpr h
        simp only [List.lookup, hb, if_neg (fun e : g = f => hk (h.symm.trans e))]
      · have hb : (g == k) = false := beq_eq_false_iff_ne.mpr h
        simp only [List.lookup, hb]
        exact ih
theorem keys_putF (f : Str) (v : V) : ∀ fs : List (Str × V), f ∈ (putF f v fs).map (·.1) ∧ ∀ g, g ∈ fs.map (·.1) → g ∈ (putF f v fs).map (·.1)
  | [] => ⟨by simp [putF], fun g h => by simp at h⟩
  | (k, x) :: r => by
    obtain ⟨i1, i2⟩ := keys_putF f v r
    rw [show putF f v ((k, x) :: r) = (if k = f then (k, v) :: r else (k, x) :: putF f v r) from rfl]
    by_cases hk : k = f
    · rw [if_pos hk]
      subst hk
      exact ⟨by simp, fun g h => by simpa using h⟩
    · rw [if_neg hk]
      refine ⟨?_, fun g h => ?_⟩
      · rw [List.map_cons]
        exact List.mem_cons_of_mem _ i1
      · rw [List.map_cons] at h ⊢
        rcases List.mem_cons.mp h with e | e
        · exact List.mem_cons.mpr (.inl e)
        · exact List.mem_cons_of_mem _ (i2 g e)
theorem length_putF (f : Str) (v : V) : ∀ fs : List (Str × V), (putF f v fs).length ≤ fs.length + 1
  | [] => by simp [putF]
  | (k, x) :: r => by
    have ih := length_putF f v r
    rw [show putF f v ((k, x) :: r) = (if k = f then (k, v) :: r else (k, x) :: putF f v r) from rfl]
    by_cases hk : k = f
    · rw [if_pos hk, List.length_cons, List.length_cons]; omega
    · rw [if_neg hk, List.length_cons, List.length_cons]; omega

theorem RelO.some_of {v : V} {o : Option Value} (r : RelO (some v) o) : ∃ u, o = some u ∧ RelV v u := by
  cases o with
  | none => exact (show False from r).elim
  | some u => exact ⟨u, rfl, r⟩
theorem RelO.none_of {o : Option Value} (r : RelO none o) : o = none := by
  cases o with
  | none => rfl
  | some u => exact (show False from r).elim
theorem handed_of {v : V} {u : Value} (r : RelV v u) : PySem.W.handedIn u = true := by
  cases v with
  | non => cases (show u = Value.none from r); rfl
  | bl b => cases (show u = Value.bool b from r); rfl
  | int i => obtain ⟨t, e⟩ := (show ∃ t, u = Value.int i t from r); cases e; rfl
  | str x => obtain ⟨t, e⟩ := (show ∃ t, u = Value.str x t from r); cases e; rfl
  | byt b => obtain ⟨t, e⟩ := (show ∃ t, u = Value.bytes b t from r); cases e; rfl
  | flt b => obtain ⟨t, e⟩ := (show ∃ t, u = Value.float b t from r); cases e; rfl
  | ref a => cases (show u = Value.ref a from r); rfl
  | ty n => cases (show u = Value.type n from r); rfl

section
variable {P : Program} {w : World} {H H' : Hp} {h h' : Heap} {a C dx : Addr} {fs fs' : List (Str × V)}
theorem ins_get (hok : HOk P w H h) (e : H a = some (.ins C dx fs)) : ∃ mA, ObjM h a dx C mA ∧ (∀ f, RelO (fs.lookup f) (mA f)) ∧ PySem.Within mA (fs.map (·.1)) ∧ fs.length ≤ 1000 ∧ H dx = some (.own a) := by
  obtain ⟨d, z, ne, ob, mA, n, r, q⟩ := (show ObjOk P w H h a (.ins C dx fs) from hok a _ e)
  exact ⟨mA, ⟨ob, n, ne⟩, r, q, z, d⟩
end

/-! ### what of the text a class must have -/
structure Cls (K : PySem.W.Frag) (C : Addr) : Prop where
  pg : PySem.W.plainGet K C Str.empty = true
  hd : PySem.W.hasDictIn K C = true
  po : PySem.W.plainOver K C = true
  sa : PySem.W.findIn K (.ref C) "__setattr__" = some (some (.builtin "object.__setattr__"))
theorem Cls.get {K : PySem.W.Frag} {C : Addr} (c : Cls K C) (f : Str) : PySem.W.plainGet K C f = true := c.pg
/-- no class of it has the name -/
def NoAttr (K : PySem.W.Frag) (C : Addr) (f : Str) : Prop := PySem.W.findIn K (.ref C) f = some none
theorem NoAttr.taker {K : PySem.W.Frag} {C : Addr} {f : Str} (n : NoAttr K C f) : PySem.W.takerIn K C f = some none := by
  unfold PySem.W.takerIn
  rw [show PySem.W.findIn K (.ref C) f = some none from n]
  rfl
/-- a constant of the class -/
structure Con (K : PySem.W.Frag) (C : Addr) (f : Str) (v : V) (u : Value) : Prop where
  at_ : PySem.W.findIn K (.ref C) f = some (some u)
  rel : RelV v u
  get : PySem.W.specialIn K u "__get__" = some none
  cp : PySem.W.copiedNames.contains f = false
/-- a method: a plain def of the class or of one above it -/
structure Meth (K : PySem.W.Frag) (C : Addr) (m : Str) (f : Addr) : Prop where
  at_ : PySem.W.findIn K (.ref C) m = some (some (.ref f))
  fn : PySem.W.isFn K (.ref f) = true
  kp : PySem.W.keepIn K (.ref f) = true

section
variable {X : Cx} {pins : List (Addr × Obj)} {σ : St} {H : Hp} {s : Shared} {a C dx : Addr} {fs : List (Str × V)} {f : Str} {v : V} {A : Around} {E : Value → Shared → Prop}

theorem getattr_ok {b : Bool} {Q : Value → Shared → Prop} (I : Inv X pins σ H s) (e : H a = some (.ins C dx fs)) (c : Cls X.K C) (n : NoAttr X.K C f) (l : fs.lookup f = some v)
    (h : ∀ u s', Inv X pins σ H s' → RelV v u → Q u s') : wpAny (model X.prog X.w) A (getAttr (.ref a) f b) Q E s := by
  obtain ⟨mA, O, r, _, _, _⟩ := ins_get I.hok e
  obtain ⟨u, hu, ru⟩ := RelO.some_of (v := v) (o := mA f) (by rw [← l]; exact r f)
  exact get_map I.kIn O (c.get f) c.hd n hu (handed_of ru) (h u _ (I.tok _) ru)

theorem getmeth_ok {m : Str} {g : Addr} {pl : Sem Bool} {Q : Value × List Value → Shared → Prop} (I : Inv X pins σ H s) (e : H a = some (.ins C dx fs)) (c : Cls X.K C) (k : Meth X.K C m g) (l : fs.lookup m = none)
    (h : Q (.ref g, [.ref a]) s) : wpAny (model X.prog X.w) A (getMethod (.ref a) m pl) Q E s := by
  obtain ⟨mA, O, r, _, _, _⟩ := ins_get I.hok e
  have hn : mA m = none := RelO.none_of (by rw [← l]; exact r m)
  exact get_meth I.kIn O (c.get m) k.at_ k.fn hn h

theorem setattr_ok {y : V} {u : Value} {Q : Unit → Shared → Prop} (I : Inv X pins σ H s) (e : H a = some (.ins C dx fs)) (c : Cls X.K C) (n : NoAttr X.K C f) (hl : fs.length < 1000) (ry : RelV y u)
    (h : ∀ s', Inv X pins σ (upd H a (.ins C dx (putF f y fs))) s' → Q () s') : wpAny (model X.prog X.w) A (setAttr (.ref a) f u) Q E s := by
  obtain ⟨mA, O, r, wi, _, ho⟩ := ins_get I.hok e
  have hz : (fs.map (·.1)).length ≤ sizeLine := by rw [List.length_map, sizeLine_eq]; omega
  refine set_map I.kIn O c.sa c.po n.taker c.hd wi hz fun h' O' sb => h _ ?_
  have hd : ∃ o, h'.get? dx = some o := let ⟨o, _, _, e', _⟩ := O'.ns; ⟨o, e'⟩
  refine I.write (x := a) (e := dx) (by rw [e]; exact True.intro) (.inr ho) (fun b q hb z => (sb.2 b hb).trans z) hd ?_
  refine ⟨by rw [upd_ne O.ne]; exact ho, ?_, O.ne, O'.obj, _, O'.ns, fun g => ?_, fun g hg => ?_⟩
  · have := length_putF f y fs; omega
  · show RelO ((putF f y fs).lookup g) (if g = f then some u else mA g)
    rw [lookup_putF]
    by_cases q : g = f
    · rw [if_pos q, if_pos q]; exact ry
    · rw [if_neg q, if_neg q]; exact r g
  · by_cases q : g = f
    · rw [q]; exact (keys_putF f y fs).1
    · refine (keys_putF f y fs).2 g (wi g fun z => hg ?_)
      show (if g = f then some u else mA g) = none
      rw [if_neg q]; exact z

/-- a new instance, tracked, without attributes -/
theorem Inv.made (I : Inv X pins σ H s) : Inv X pins σ (upd (upd H s.heap.objs.size (.own (s.heap.objs.size + 1))) (s.heap.objs.size + 1) (.ins C s.heap.objs.size []))
    { s with heap := (s.heap.push PySem.W.emptyDict).push (PySem.W.instObj C s.heap.objs.size) } := by
  have e1 : (s.heap.push PySem.W.emptyDict).get? s.heap.objs.size = some PySem.W.emptyDict := Heap.get?_push_size s.heap rfl
  have e2 : ((s.heap.push PySem.W.emptyDict).push (PySem.W.instObj C s.heap.objs.size)).get? (s.heap.objs.size + 1) = some (PySem.W.instObj C s.heap.objs.size) := by
    have := Heap.get?_push_size (s.heap.push PySem.W.emptyDict) (o := PySem.W.instObj C s.heap.objs.size) rfl
    rwa [Heap.size_push] at this
  have e3 : (s.heap.push PySem.W.emptyDict).Ns s.heap.objs.size (fun _ => none) := ⟨PySem.W.emptyDict, #[], _, e1, rfl, (fun e he => absurd he (by simp)), fun _ => rfl⟩
  have I1 := I.laid (a := s.heap.objs.size) (o := .own (s.heap.objs.size + 1)) (h' := s.heap.push PySem.W.emptyDict) (t' := s.toks) (fun b u q => Heap.get?_push_of_some _ q) (Nat.le_refl _) ⟨_, e1⟩
  refine I1.laid (a := s.heap.objs.size + 1) (o := .ins C s.heap.objs.size []) (t' := s.toks) (fun b u q => Heap.get?_push_of_some _ q) (Nat.le_of_eq (Heap.size_push _ _)) ?_
  have ne : s.heap.objs.size ≠ s.heap.objs.size + 1 := Nat.ne_of_lt (Nat.lt_succ_self _)
  refine ⟨by rw [upd_ne ne, upd_same], Nat.zero_le _, ne, e2, fun _ => none, (Heap.Ns1.of_empty e3).at fun o q => Heap.get?_push_of_some _ q, fun _ => True.intro, fun y hy => absurd rfl hy⟩

/-- e.f where nothing but the object is asked: through attributeBase (super) and the last hold -/
theorem attr_of {prog : Program} {w : World} {env : Env} {e : Expr} {f : Str} {pos : Pos} {s : Shared} {Q : Value → Shared → Prop} (hb : attributeBase e f env (eval e env) = eval e env)
    (h : wpAny (model prog w) A (eval e env) (fun o s₁ => wpAny (model prog w) A (getAttr o f true) Q E s₁) E s) : wpAny (model prog w) A (eval (.Attribute e f pos) env) Q E s :=
  Attribute_any_ h (by rw [arm_eval_Attribute, hb])
end

/-! ### readings and rules -/
/-- e.f, an attribute of the instance -/
def tFld (K : PySem.W.Frag) (ta : TE) (f : Str) : TE := fun σ H Q => ta σ H fun x H1 => ∃ a C dx fs v, x = .ref a ∧ H1 a = some (.ins C dx fs) ∧ Cls K C ∧ NoAttr K C f ∧ fs.lookup f = some v ∧ Q v H1
/-- e.f, a constant of the class -/
def tCon (K : PySem.W.Frag) (ta : TE) (f : Str) : TE := fun σ H Q => ta σ H fun x H1 => ∃ a C dx fs v u, x = .ref a ∧ H1 a = some (.ins C dx fs) ∧ Cls K C ∧ Con K C f v u ∧ fs.lookup f = none ∧ Q v H1
/-- e.f = value -/
def sFld (K : PySem.W.Frag) (ta tv : TE) (f : Str) : TS := fun D σ H => tv σ H fun y H1 => ta σ H1 fun x H2 => ∃ a C dx fs, x = .ref a ∧ H2 a = some (.ins C dx fs) ∧ Cls K C ∧ NoAttr K C f ∧ fs.length < 1000 ∧
  D.nx σ (upd H2 a (.ins C dx (putF f y fs)))
/-- an augmented operator on two values -/
def InOp (X : Cx) (op : Operator) (rd : V → V → Hp → VK → Prop) : Prop :=
  ∀ (pins : List (Addr × Obj)) (s : Shared) (σ : St) (H : Hp) (x y : V) (u v : Value) (Q : VK), Inv X pins σ H s → RelV x u → RelV y v → rd x y H Q → wpAny (model X.prog X.w) X.A (inplaceOp op u v) (EP X pins σ Q) X.xe s
/-- e.f op= value -/
def sFldAug (K : PySem.W.Frag) (ta tv : TE) (rd : V → V → Hp → VK → Prop) (f : Str) : TS := fun D σ H => ta σ H fun x H1 => ∃ a C dx fs v, x = .ref a ∧ H1 a = some (.ins C dx fs) ∧ Cls K C ∧ NoAttr K C f ∧ fs.lookup f = some v ∧
  tv σ H1 fun y H2 => rd v y H2 fun z H3 => ∃ dx' fs', H3 a = some (.ins C dx' fs') ∧ fs'.length < 1000 ∧ D.nx σ (upd H3 a (.ins C dx' (putF f z fs')))

section
variable {X : Cx} {o e value : Expr} {f : Str} {pos pos' tpos : Pos} {ta tv : TE}
theorem pe_fld (he : PE X e ta) (hb : attributeBase e f X.env (eval e X.env) = eval e X.env) : PE X (.Attribute e f pos) (tFld X.K ta f) := by
  intro pins s σ H Q I h
  refine attr_of hb (thn (he pins s σ H _ I h) fun u s1 ⟨x, H1, I1, rx, a, C, dx, fs, v, ex, ea, c, n, l, q⟩ => ?_)
  subst ex
  obtain rfl : u = Value.ref a := rx
  exact getattr_ok I1 ea c n l fun u' s2 I2 ru => ⟨v, H1, I2, ru, q⟩
theorem ps_fld (ha : PE X o ta) (hv : PE X value tv) (hs : swapsWith value (some (.Attribute o f pos')) pos.line X.env = pure false) : PS X (.Assign [.Attribute o f pos'] value pos) (sFld X.K ta tv f) := by
  intro pins s σ H D I h
  refine plainObj_wpAny_Assign_Attribute (thn (hv pins s σ H _ I h) fun u s1 ⟨y, H1, I1, ry, q⟩ => thn (ha pins s1 σ H1 _ I1 q) fun ov s2 ⟨x, H2, I2, rx, a, C, dx, fs, ex, ea, c, n, l, q2⟩ => ?_) hs
  subst ex
  obtain rfl : ov = Value.ref a := rx
  exact setattr_ok I2 ea c n l ry fun s3 I3 => ⟨σ, _, I3, q2⟩
def rAdd : V → V → Hp → VK → Prop := fun x y H Q => ∃ i j, x = .int i ∧ y = .int j ∧ Q (.int (i + j)) H
def rSub : V → V → Hp → VK → Prop := fun x y H Q => ∃ i j, x = .int i ∧ y = .int j ∧ Q (.int (i - j)) H
end

/-! ### isinstance -/
section
variable {X : Cx} {pins : List (Addr × Obj)} {σ : St} {H : Hp} {s : Shared} {A : Around} {E : Value → Shared → Prop} {Q : Value → Shared → Prop} {c : Value} {b : Bool}
/-- the type of a value, as the fragment's deciders take it; for an instance its class -/
inductive TyOf (K : PySem.W.Frag) (H : Hp) : V → Value → Prop where
  | non : TyOf K H .non (.type "NoneType")
  | bl (x : Bool) : TyOf K H (.bl x) (.type "bool")
  | int (i : Int) : TyOf K H (.int i) (.type "int")
  | str (x : Str) : TyOf K H (.str x) (.type "str")
  | flt (x : UInt64) : TyOf K H (.flt x) (.type "float")
  | lst {a : Addr} {xs : List V} (e : H a = some (.lst xs)) : TyOf K H (.ref a) (.type "list")
  | frz {a : Addr} {o : Obj} {xs : List V} (e : H a = some (.frz o (.lst xs))) : TyOf K H (.ref a) (.type "list")
  | tup {a : Addr} {xs : List V} (e : H a = some (.tup xs)) : TyOf K H (.ref a) (.type "tuple")
  | dK {a : Addr} {kvs : List (Key × V)} (e : H a = some (.dK kvs)) : TyOf K H (.ref a) (.type "dict")
  | dT {a : Addr} {kvs : List (List Key × V)} (e : H a = some (.dT kvs)) : TyOf K H (.ref a) (.type "dict")
  | ins {a C dx : Addr} {fs : List (Str × V)} (e : H a = some (.ins C dx fs)) (cl : Cls K C) (ha : PySem.W.findIn K (.ref C) "__class__" = some (some (.builtin "object.__class__")))
      (hn : PySem.W.specialIn K (.builtin "object.__class__") "__get__" = some (some (.builtin "getset_descriptor.__get__"))) (htk : PySem.W.takesIn K (.builtin "object.__class__") = some true)
      (hm : PySem.W.mroIn K C (.type "object") = some true) : TyOf K H (.ref a) (.ref C)
/-- isinstance(x, c) for one class c, a built-in or an own one: kitOne's answer -/
theorem isinst_ok {x : V} {u t : Value} (I : Inv X pins σ H s) (rx : RelV x u) (ty : TyOf X.K H x t) (e : PySem.W.kitOne X.K t c = some b) (h : ∀ tk, Q (.bool b) { s with toks := tk }) :
    wpAny (model X.prog X.w) A (call (.builtin "isinstance") [u, c]) Q E s := by
  cases ty with
  | non => cases (show u = Value.none from rx); exact PySem.W.kia_one PySem.W.kitx_none I.kIn True.intro e (fun z => nomatch z) h
  | bl y => cases (show u = Value.bool y from rx); exact PySem.W.kia_one PySem.W.kitx_bool I.kIn True.intro e (fun z => nomatch z) h
  | int i => obtain ⟨t, q⟩ := (show ∃ t, u = Value.int i t from rx); cases q; exact PySem.W.kia_one PySem.W.kitx_int I.kIn True.intro e (fun z => nomatch z) h
  | str y => obtain ⟨t, q⟩ := (show ∃ t, u = Value.str y t from rx); cases q; exact PySem.W.kia_one PySem.W.kitx_str I.kIn True.intro e (fun z => nomatch z) h
  | flt y => obtain ⟨t, q⟩ := (show ∃ t, u = Value.float y t from rx); cases q; exact PySem.W.kia_one PySem.W.kitx_float I.kIn True.intro e (fun z => nomatch z) h
  | @lst a xs ea =>
    cases (show u = Value.ref a from rx)
    obtain ⟨_, _, n, _, h1⟩ := (show ObjOk X.prog X.w H s.heap a (.lst xs) from I.hok a _ ea)
    exact PySem.W.kia_one PySem.W.kitx_list I.kIn ⟨_, h1, rfl⟩ e (fun z => nomatch z) h
  | @frz a ob xs ea =>
    cases (show u = Value.ref a from rx)
    obtain ⟨_, _, _, n, _, h1⟩ := (show ObjOk X.prog X.w H s.heap a (.frz ob (.lst xs)) from I.hok a _ ea)
    exact PySem.W.kia_one PySem.W.kitx_list I.kIn ⟨_, h1, rfl⟩ e (fun z => nomatch z) h
  | @tup a xs ea =>
    cases (show u = Value.ref a from rx)
    obtain ⟨_, _, _, p⟩ := (show ObjOk X.prog X.w H s.heap a (.tup xs) from I.hok a _ ea)
    obtain ⟨o, h1, h2, _⟩ := p
    exact PySem.W.kia_one PySem.W.kitx_tuple I.kIn ⟨o, h1, h2⟩ e (fun z => nomatch z) h
  | @dK a kvs ea =>
    cases (show u = Value.ref a from rx)
    obtain ⟨_, _, vs, _, p⟩ := (show ObjOk X.prog X.w H s.heap a (.dK kvs) from I.hok a _ ea)
    obtain ⟨o, es, ep, h1, h2, _⟩ := p
    exact PySem.W.kia_one PySem.W.kitx_dict I.kIn ⟨o, h1, h2.1⟩ e (fun z => nomatch z) h
  | @dT a kvs ea =>
    cases (show u = Value.ref a from rx)
    obtain ⟨_, _, xs, _, o, es, ep, h1, h2, _⟩ := (show ObjOk X.prog X.w H s.heap a (.dT kvs) from I.hok a _ ea)
    exact PySem.W.kia_one PySem.W.kitx_dict I.kIn ⟨o, h1, h2.1⟩ e (fun z => nomatch z) h
  | @ins a C dx fs ea cl ha hn htk hm =>
    cases (show u = Value.ref a from rx)
    obtain ⟨mA, O, _⟩ := ins_get I.hok ea
    obtain ⟨od, J, _⟩ := O.look
    exact PySem.W.kia_one (PySem.W.kitx_own (cl.get _) cl.hd ha hn htk hm) I.kIn J e (fun z => nomatch z) h
end
end L2

namespace L2
open PySem PySem.Spec PyProof.Rows

/-! ### room -/
structure Room (k : Nat) (A : Around) : Prop where
  hd : A.handled = none
  dp : A.depth + 3 * k + 5 < recursionLimit
  un : A.units + 16 * k + 200 < cLine
theorem Room.mono {j k : Nat} {A : Around} (r : Room k A) (h : j ≤ k) : Room j A := ⟨r.hd, by have := r.dp; omega, by have := r.un; omega⟩
theorem Room.deeper {k : Nat} {A : Around} (r : Room (k + 1) A) (env : Env) : Room k (A.deeper env) :=
  ⟨r.hd, by have := r.dp; show A.depth + 1 + 3 * k + 5 < _; omega, by have := r.un; show A.units + 3 + 16 * k + 200 < _; omega⟩
theorem make_depth {A : Around} {C : Addr} {us : List Value} {kw : List (Str × Value)} : (A.under (.builtin "type.__call__" ⟨.ref C :: us, kw⟩)).depth = A.depth + 1 := by
  first | rfl | simp [Around.under, Code.weight, Code.isCreation, Code.isGuard, Code.isCaller, Code.frames, Code.isFrame, guardIds]
theorem make_units {A : Around} {C : Addr} {us : List Value} {kw : List (Str × Value)} : (A.under (.builtin "type.__call__" ⟨.ref C :: us, kw⟩)).units = A.units + 1 := by
  first | rfl | simp [Around.under, Code.cUnits, Code.frames, Code.isFrame]
theorem Room.make {k : Nat} {A : Around} (r : Room (k + 1) A) (C : Addr) (us : List Value) (kw : List (Str × Value)) : Room k (A.under (.builtin "type.__call__" ⟨.ref C :: us, kw⟩)) :=
  ⟨r.hd, by have := r.dp; rw [make_depth]; omega, by have := r.un; rw [make_units]; omega⟩
theorem Room.depth {k : Nat} {A : Around} (r : Room k A) : A.depth < recursionLimit := by have := r.dp; omega
theorem Room.units {k : Nat} {A : Around} (r : Room k A) : A.units + 64 < cLine := by have := r.un; omega
/-! ### argument lists and displays -/
def tNil : TA := fun _ H Q => Q [] H
def tCons (ta : TE) (tr : TA) : TA := fun σ H Q => ta σ H fun x H1 => tr σ H1 fun xs H2 => Q (x :: xs) H2
section
variable {X : Cx} {e : Expr} {es : List Expr} {te : TE} {t : TA} {pos : Pos}
theorem pa_nil : PA X [] tNil := fun _ _ _ _ H Q I h => Calls.spliced_nil ⟨[], H, I, .nil, h⟩
theorem pa_cons (ha : PE X e te) (hr : PA X es t) (hs : starEach (e :: es) X.env = (false, eval e X.env) :: starEach es X.env := by rfl) : PA X (e :: es) (tCons te t) := by
  intro pos pins s σ H Q I h
  rw [hs]
  show wpAny _ _ (spliced ((false, eval e X.env) :: backTo pos (starEach es X.env))) _ _ s
  refine Calls.spliced_cons (thn (ha pins s σ H _ I h) fun u s1 ⟨x, H1, I1, r1, q1⟩ => ?_)
  exact thn (hr pos pins s1 σ H1 _ I1 q1) fun us s2 ⟨xs, H2, I2, r2, q2⟩ => ⟨x :: xs, H2, I2, .cons r1 r2, q2⟩

/-- a tuple, a list of written items -/
def tTup (t : TA) : TE := fun σ H Q => t σ H fun xs H1 => xs.length ≤ sizeLine ∧ ∀ p, H1 p = none → Q (.ref p) (upd H1 p (.tup xs))
def tLst (t : TA) : TE := fun σ H Q => t σ H fun xs H1 => xs.length ≤ sizeLine ∧ ∀ p, H1 p = none → Q (.ref p) (upd H1 p (.lst xs))
theorem pe_tup {x1} (h : PA X es t) : PE X (.Tuple es x1 pos) (tTup t) := by
  intro pins s σ H Q I hq
  refine wpAny_Tuple_spliced (thn (h pos pins s σ H _ I hq) fun us s1 ⟨xs, H1, I1, r, z, q⟩ => ⟨by rw [← r.length]; exact z, ?_⟩)
  have hf : H1 s1.heap.objs.size = none := I1.hok.fresh (Nat.le_refl _)
  refine ⟨.ref s1.heap.objs.size, upd H1 s1.heap.objs.size (.tup xs), I1.laid (t' := s1.toks) (fun b u e => Heap.get?_push_of_some _ e) (Nat.le_refl _) ?_, rfl, q _ hf⟩
  exact ⟨z, us, r, ⟨_, Heap.get?_push_size _ rfl, rfl, _, rfl⟩⟩
theorem pe_lst (h : PA X es t) : PE X (.List es pos) (tLst t) := by
  intro pins s σ H Q I hq
  refine wpAny_List_spliced (thn (h pos pins s σ H _ I hq) fun us s1 ⟨xs, H1, I1, r, z, q⟩ => ⟨by rw [← r.length]; exact z, ?_⟩)
  have hf : H1 s1.heap.objs.size = none := I1.hok.fresh (Nat.le_refl _)
  refine ⟨.ref s1.heap.objs.size, upd H1 s1.heap.objs.size (.lst xs), I1.laid (t' := s1.toks) (fun b u e => Heap.get?_push_of_some _ e) (Nat.le_refl _) ?_, rfl, q _ hf⟩
  exact ⟨z, us, 0, r, Heap.get?_push_size _ rfl⟩
end

/-! ### what a def promises -/
/-- a def's promise: the bound arguments in the parameters' order, the heap, the wanted end, the wanted exception -/
abbrev Sp := List V → Hp → VK → XK → Prop
/-- how an exception lies behind a call (file 08 gives it): the callers' frames, abstract heap and state ahead of the call, the wish, the exception, the state -/
abbrev CXT := List Env → Hp → Shared → XK → Value → Shared → Prop

/-- the state at a call -/
structure Env0 (P : Program) (w : World) (K : PySem.W.Frag) (mg : Str → Option Value) (base : Heap) (A : Around) (outer : List Env) (s : Shared) (H : Hp) : Prop where
  frames : A.frames = some outer
  mod : Mod K mg base
  bs : ∀ b o, base.get? b = some o → s.heap.get? b = some o ∧ H b = none
  bsz : base.objs.size ≤ s.heap.objs.size
  funs : s.heap.FunFrames base outer
  frf : ∀ b ∈ frs outer, H b = none
  hok : HOk P w H s.heap
  bare : AllBare s.gens
/-- a call's end -/
def CE (outer : List Env) (P : Program) (w : World) (H : Hp) (s : Shared) (Q : VK) (u : Value) (s' : Shared) : Prop :=
  ∃ v H', s'.os = s.os ∧ AllBare s'.gens ∧ Un (frs outer) [] H H' s.heap s'.heap ∧ HOk P w H' s'.heap ∧ RelV v u ∧ Q v H'
def CR (CX : CXT) (outer : List Env) (P : Program) (w : World) (H : Hp) (s : Shared) (Q : VK) (E : XK) (r : Result) (s' : Shared) : Prop :=
  match r with
  | .ok (.ret u) => CE outer P w H s Q u s'
  | .ok _ => False
  | .error e => CX outer H s E e s'
structure FnOk (P : Program) (w : World) (K : PySem.W.Frag) (mg : Str → Option Value) (base : Heap) (CX : CXT) (k : Nat) (f : Addr) (fd : FuncData) (ps : List Str) (sp : Sp) : Prop where
  len : ∀ vs H Q E, sp vs H Q E → vs.length = ps.length
  run : ∀ (A : Around) (outer : List Env) (s : Shared) (H : Hp) (args : Args) (us : List Value) (vs : List V) (Q : VK) (E : XK), Room k A → Env0 P w K mg base A outer s H → BindsTo s fd args (ps.zip us) → Vals vs us → sp vs H Q E →
    codeAny (model P w) A (.call (.ref f) args) (CR CX outer P w H s Q E) s
theorem Env0.make {P : Program} {w : World} {K : PySem.W.Frag} {mg : Str → Option Value} {base : Heap} {A : Around} {outer : List Env} {s : Shared} {H : Hp} (e : Env0 P w K mg base A outer s H) (C : Addr) (us : List Value) (kw : List (Str × Value)) :
    Env0 P w K mg base (A.under (.builtin "type.__call__" ⟨.ref C :: us, kw⟩)) outer s H := ⟨by first | exact e.frames | (simpa [Around.under, Code.envs, Code.isFrame, pushEnvs] using e.frames), e.mod, e.bs, e.bsz, e.funs, e.frf, e.hok, e.bare⟩
section
variable {X : Cx} {pins : List (Addr × Obj)} {σ : St} {H : Hp} {s s' : Shared}
/-- from a body: what a callee wants -/
theorem Inv.env0 (I : Inv X pins σ H s) : Env0 X.prog X.w X.K X.mg X.base X.A X.stack s H :=
  ⟨I.ok.frames, I.ok.mod, I.bs, Nat.le_trans I.ok.bsz I.sz, I.stack, I.stkFree, I.hok, I.bare⟩
/-- behind a call -/
theorem Inv.after {Q : VK} {u : Value} (I : Inv X pins σ H s) (h : CE X.stack X.prog X.w H s Q u s') : EP X pins σ Q u s' := by
  obtain ⟨v, H', os, bare, un, hok, r, q⟩ := h
  obtain ⟨hh, g, d, t, os'⟩ := s'
  obtain rfl : os' = s.os := os
  exact ⟨v, H', I.call (h' := hh) (g' := g) (d' := d) (t' := t) (ch := []) un hok bare (fun b z => absurd z (by simp)), r, q⟩
end

/-! ### calls -/
/-- f(..): the written arguments, then the defaults dvs; E: what is wanted of an exception -/
def tCall (sp : Sp) (dvs : List V) (E : XK) (t : TA) : TE := fun σ H Q => t σ H fun vs H1 => sp (vs ++ dvs) H1 Q E
/-- o.m(..) of an instance of the class at C -/
def tMeth (C : Addr) (m : Str) (sp : Sp) (dvs : List V) (E : XK) (ta : TE) (t : TA) : TE := fun σ H Q => ta σ H fun x H1 => ∃ a dx fs, x = .ref a ∧ H1 a = some (.ins C dx fs) ∧ fs.lookup m = none ∧
  t σ H1 fun vs H2 => sp (x :: (vs ++ dvs)) H2 Q E
/-- C(..): a new instance and its dict, then __init__ -/
def tMake (C : Addr) (sp : Sp) (dvs : List V) (E : XK) (t : TA) : TE := fun σ H Q => t σ H fun vs H1 => ∀ x dx, H1 x = none → H1 dx = none → dx ≠ x →
  sp (.ref x :: (vs ++ dvs)) (upd (upd H1 dx (.own x)) x (.ins C dx [])) (fun v H2 => v = .non ∧ Q (.ref x) H2) E

/-- how the parameters are bound: us the positional arguments, kw the keywords' values by name, ds the defaults that fill up -/
def Binds (K : PySem.W.Frag) (fd : FuncData) (ps : List Str) (ds : List Value) : Prop :=
  ∀ (s : Shared) (us : List Value), K.In s.heap → (us ++ ds).length = ps.length → BindsTo s fd ⟨us, []⟩ (ps.zip (us ++ ds))
/-- every parameter is given -/
theorem Binds.all {K : PySem.W.Frag} {fd : FuncData} {ps : List Str} (h : ∀ us : List Value, us.length = ps.length → bindArgs fd ⟨us, []⟩ = pure (ps.zip us)) : Binds K fd ps [] := fun s us _ hl => by
  rw [List.append_nil] at hl ⊢
  exact .of_eq (h us hl)

/-- an exception of a callee reaches what this body wants of exceptions -/
def Passes (CX : CXT) (X : Cx) (E : XK) : Prop := ∀ (pins : List (Addr × Obj)) (σ : St) (H : Hp) (s : Shared) (e : Value) (s' : Shared), Inv X pins σ H s → CX X.stack H s E e s' → X.xe e s'

section
variable {X : Cx} {CX : CXT} {k : Nat} {f C : Addr} {fd : FuncData} {ps : List Str} {sp : Sp} {dvs : List V} {ds : List Value} {E : XK} {x m : Str} {p pos apos : Pos} {e o : Expr} {es : List Expr} {ta : TE} {t : TA}

/-- the callee runs -/
theorem run_fn {pins : List (Addr × Obj)} {σ : St} {H : Hp} {s : Shared} {Q : VK} {us : List Value} {vs : List V} (F : FnOk X.prog X.w X.K X.mg X.base CX k f fd ps sp) (hr : Room k X.A) (hb : Binds X.K fd ps ds) (hd : Vals dvs ds) (hx : Passes CX X E)
    (I : Inv X pins σ H s) (r : Vals vs us) (h : sp (vs ++ dvs) H Q E) : wpAny (model X.prog X.w) X.A (call (.ref f) us) (EP X pins σ Q) X.xe s := by
  have r2 : Vals (vs ++ dvs) (us ++ ds) := r.append hd
  have hl : (us ++ ds).length = ps.length := by rw [← r2.length]; exact F.len _ _ _ _ h
  refine wpAny_call (codeAny_mono (F.run X.A X.stack s H ⟨us, []⟩ (us ++ ds) (vs ++ dvs) Q E hr I.env0 (hb s us I.kIn hl) r2 h) fun r s' hq => ?_)
  cases r with
  | error e => exact hx pins σ H s e s' I hq
  | ok fl =>
    cases fl with
    | ret u => exact I.after hq
    | next => exact False.elim hq
    | brk => exact False.elim hq
    | cont => exact False.elim hq

theorem pe_call (F : FnOk X.prog X.w X.K X.mg X.base CX k f fd ps sp) (hr : Room k X.A) (hg : Gl X x) (hm : X.mg x = some (.ref f)) (hk : PySem.W.keepIn X.K (.ref f) = true) (hb : Binds X.K fd ps ds) (hd : Vals dvs ds) (hx : Passes CX X E)
    (ha : PA X (e :: es) t) (hdb : (x == ("__debug__" : Str)) = false := by decide) (he : starEach (e :: es) X.env = (false, eval e X.env) :: starEach es X.env := by rfl) (hpl : (backTo pos (starEach es X.env)).any (·.1) = false := by rfl) :
    PE X (.Call (.Name x p) (e :: es) [] pos) (tCall sp dvs E t) := by
  intro pins s σ H Q I h
  refine wpAny_Call_Name_kw (ld_glob I hg hm ?_ hdb)
  refine PySem.W.callWith_K (h₀ := X.base) I.ok.mod.kin hk (thn (ha pos pins s σ H _ I h) fun us s1 ⟨vs, H1, I1, r, q⟩ => ⟨I1.kIn, ?_⟩) he hpl
  exact run_fn F hr hb hd hx I1 r q
/-- o.m() -/
theorem pe_meth0 {pl : Sem Bool} (he : PE X o ta) (c : Cls X.K C) (hm : Meth X.K C m f) (F : FnOk X.prog X.w X.K X.mg X.base CX k f fd ps sp) (hr : Room k X.A) (hb : Binds X.K fd ps ds) (hd : Vals dvs ds) (hx : Passes CX X E)
    (ht : eval (.Call (.Attribute o m apos) [] [] pos) X.env = (do
      let ov ← eval o X.env
      standAt apos.atName
      let (f, first) ← holding [ov] (getMethod ov m pl)
      callWith pos f first (backTo pos (starEach [] X.env)) (backToKw pos (keywordEach [] X.env))) := by rfl) :
    PE X (.Call (.Attribute o m apos) [] [] pos) (tMeth C m sp dvs E ta tNil) := by
  intro pins s σ H Q I h
  refine PySem.W.methodCall_KW (pl := pl) (thn (he pins s σ H _ I h) fun u s1 ⟨x, H1, I1, rx, a, dx, fs, ex, ea, l, q⟩ => ?_) ht
  subst ex
  obtain rfl : u = Value.ref a := rx
  refine getmeth_ok I1 ea c hm l ?_
  exact PySem.W.callWith_K0 (first := [.ref a]) I1.kIn hm.kp (run_fn (us := [.ref a]) (vs := [.ref a]) F hr hb hd hx I1 (.cons rfl .nil) q)

/-- what a class must have to be made -/
structure Mk (K : PySem.W.Frag) (C f : Addr) : Prop where
  makes : PySem.W.makesIn K C = true
  init : PySem.W.findIn K (.ref C) "__init__" = some (some (.ref f))
  fn : PySem.W.isFn K (.ref f) = true
  kp : PySem.W.keepIn K (.ref C) = true

theorem run_make {pins : List (Addr × Obj)} {σ : St} {H : Hp} {s : Shared} {Q : VK} {us : List Value} {vs : List V} (M : Mk X.K C f) (F : FnOk X.prog X.w X.K X.mg X.base CX k f fd ps sp) (hr : Room (k + 1) X.A) (hb : Binds X.K fd ps ds) (hd : Vals dvs ds)
    (hx : Passes CX X E) (I : Inv X pins σ H s) (r : Vals vs us)
    (h : ∀ x dx, H x = none → H dx = none → dx ≠ x → sp (.ref x :: (vs ++ dvs)) (upd (upd H dx (.own x)) x (.ins C dx [])) (fun v H2 => v = .non ∧ Q (.ref x) H2) E) :
    wpAny (model X.prog X.w) X.A (call (.ref C) us) (EP X pins σ Q) X.xe s := by
  have hq := h (s.heap.objs.size + 1) s.heap.objs.size (I.hok.fresh (Nat.le_succ _)) (I.hok.fresh (Nat.le_refl _)) (Nat.ne_of_lt (Nat.lt_succ_self _))
  have I2 := Inv.made (C := C) I
  have r2 : Vals (V.ref (s.heap.objs.size + 1) :: (vs ++ dvs)) (Value.ref (s.heap.objs.size + 1) :: (us ++ ds)) := .cons rfl (r.append hd)
  have hl : (Value.ref (s.heap.objs.size + 1) :: us ++ ds).length = ps.length := by
    have e := r2.length
    rw [F.len _ _ _ _ hq] at e
    exact e.symm
  refine wpAny_call (make_map (f := f) I.kIn M.makes M.init (beq_iff_eq.mp M.fn) (codeAny_mono (F.run _ X.stack _ _ ⟨Value.ref (s.heap.objs.size + 1) :: us, []⟩ (Value.ref (s.heap.objs.size + 1) :: (us ++ ds)) _ _ E (hr.make C us [])
    (I2.env0.make C us []) (hb _ (Value.ref (s.heap.objs.size + 1) :: us) I2.kIn hl) r2 hq) fun r s' hq' => ?_))
  cases r with
  | error e => exact hx pins σ _ _ e s' I2 hq'
  | ok fl =>
    cases fl with
    | ret u =>
      obtain ⟨v, H', I3, rv, ev, q3⟩ := I2.after hq'
      subst ev
      exact ⟨rv, ⟨V.ref (s.heap.objs.size + 1), H', I3, rfl, q3⟩⟩
    | next => exact False.elim hq'
    | brk => exact False.elim hq'
    | cont => exact False.elim hq'
theorem pe_make (M : Mk X.K C f) (F : FnOk X.prog X.w X.K X.mg X.base CX k f fd ps sp) (hr : Room (k + 1) X.A) (hg : Gl X x) (hm : X.mg x = some (.ref C)) (hb : Binds X.K fd ps ds) (hd : Vals dvs ds) (hx : Passes CX X E)
    (ha : PA X (e :: es) t) (hdb : (x == ("__debug__" : Str)) = false := by decide) (he : starEach (e :: es) X.env = (false, eval e X.env) :: starEach es X.env := by rfl) (hpl : (backTo pos (starEach es X.env)).any (·.1) = false := by rfl) :
    PE X (.Call (.Name x p) (e :: es) [] pos) (tMake C sp dvs E t) := by
  intro pins s σ H Q I h
  refine wpAny_Call_Name_kw (ld_glob I hg hm ?_ hdb)
  refine PySem.W.callWith_K (h₀ := X.base) I.ok.mod.kin M.kp (thn (ha pos pins s σ H _ I h) fun us s1 ⟨vs, H1, I1, r, q⟩ => ⟨I1.kIn, ?_⟩) he hpl
  exact run_make M F hr hb hd hx I1 r q
end

/-! ### keywords -/
/-- the values of the keywords, from the left -/
def PK (X : Cx) (kws : List Keyword) (t : TA) : Prop :=
  ∀ (pos : Pos) (pins : List (Addr × Obj)) (s : Shared) (σ : St) (H : Hp) (Q : List V → Hp → Prop), Inv X pins σ H s → t σ H Q → wpAny (model X.prog X.w) X.A (evalAll ((backToKw pos (keywordEach kws X.env)).map (·.2))) (AP X pins σ Q) X.xe s
section
variable {X : Cx} {CX : CXT} {k : Nat} {f C : Addr} {fd : FuncData} {ps ks : List Str} {sp : Sp} {E : XK} {x m : Str} {p pos apos kpos : Pos} {e o : Expr} {es : List Expr} {kws : List Keyword} {te ta : TE} {t tk : TA} {nm : Option Str}
/-- how a call with keywords binds: g puts the positional values us and the keywords' values ws (names ks) in the parameters' order, defaults among them -/
structure KBinds (K : PySem.W.Frag) (fd : FuncData) (ps ks : List Str) (g : List Value → List Value → List Value) (gV : List V → List V → List V) : Prop where
  to : ∀ (s : Shared) (us ws : List Value), K.In s.heap → (g us ws).length = ps.length → BindsTo s fd ⟨us, ks.zip ws⟩ (ps.zip (g us ws))
  rel : ∀ {vs : List V} {us : List Value} {zs : List V} {ws : List Value}, Vals vs us → Vals zs ws → Vals (gV vs zs) (g us ws)
def tCallK (sp : Sp) (gV : List V → List V → List V) (E : XK) (t tk : TA) : TE := fun σ H Q => t σ H fun vs H1 => tk σ H1 fun zs H2 => sp (gV vs zs) H2 Q E
variable {g : List Value → List Value → List Value} {gV : List V → List V → List V}
end

/-! ### a def's body keeps its promise -/
/-- names: the parameters first -/
structure FnScope (N P : List Str) (sc : Scope) : Prop where
  kind : sc.kind = .function
  co : sc.isCoroutine = false
  gen : sc.isGenerator = false
  nd : N.Nodup
  pre : N.take P.length = P
  par : ∀ x ∈ P, sc.names.lookup x = some .local ∨ sc.names.lookup x = some .cell
  nofree : ∀ y ∈ sc.names, y.2 ≠ .free

theorem bindL_out {kindOf : Str → Option NameKind} {x : Str} : ∀ {binds : List (Str × Value)} {m : Str → Option Value}, (∀ v, (x, v) ∉ binds) → bindL kindOf binds m x = m x
  | [], _, _ => rfl
  | (n, v) :: r, m, h => by
    unfold bindL
    rw [bindL_out fun w hw => h w (List.mem_cons_of_mem _ hw)]
    split
    · have : x ≠ n := by rintro rfl; exact h v List.mem_cons_self
      simp [this]
    · rfl
theorem bindC_out {kindOf : Str → Option NameKind} {x : Str} : ∀ {binds : List (Str × Value)} {m : Str → Option Value}, (∀ v, (x, v) ∉ binds) → bindC kindOf binds m x = m x
  | [], _, _ => rfl
  | (n, v) :: r, m, h => by
    unfold bindC
    rw [bindC_out fun w hw => h w (List.mem_cons_of_mem _ hw)]
    split
    · rfl
    · have : x ≠ n := by rintro rfl; exact h v List.mem_cons_self
      simp [this]
theorem bindL_get {kindOf : Str → Option NameKind} {x : Str} {v : Value} : ∀ {P : List Str} {vs : List Value} {i : Nat} {m : Str → Option Value}, P.Nodup → P[i]? = some x → vs[i]? = some v → kindOf x = some .local →
    bindL kindOf (P.zip vs) m x = some v
  | [], _, _, _, _, h, _, _ => by simp at h
  | _ :: _, [], _, _, _, _, h, _ => by simp at h
  | p :: P, w :: vs, 0, m, nd, h1, h2, hk => by
    simp at h1 h2; subst h1; subst h2
    show bindL kindOf ((p, w) :: P.zip vs) m p = _
    unfold bindL
    rw [bindL_out fun v hv => (List.nodup_cons.mp nd).1 (List.of_mem_zip hv).1, if_pos hk]
    simp
  | p :: P, w :: vs, i + 1, m, nd, h1, h2, hk => by
    show bindL kindOf ((p, w) :: P.zip vs) m x = _
    unfold bindL
    exact bindL_get (i := i) (List.nodup_cons.mp nd).2 (by simpa using h1) (by simpa using h2) hk
theorem bindC_get {kindOf : Str → Option NameKind} {x : Str} {v : Value} : ∀ {P : List Str} {vs : List Value} {i : Nat} {m : Str → Option Value}, P.Nodup → P[i]? = some x → vs[i]? = some v → kindOf x ≠ some .local →
    bindC kindOf (P.zip vs) m x = some v
  | [], _, _, _, _, h, _, _ => by simp at h
  | _ :: _, [], _, _, _, _, h, _ => by simp at h
  | p :: P, w :: vs, 0, m, nd, h1, h2, hk => by
    simp at h1 h2; subst h1; subst h2
    show bindC kindOf ((p, w) :: P.zip vs) m p = _
    unfold bindC
    rw [bindC_out fun v hv => (List.nodup_cons.mp nd).1 (List.of_mem_zip hv).1, if_neg hk]
    simp
  | p :: P, w :: vs, i + 1, m, nd, h1, h2, hk => by
    show bindC kindOf ((p, w) :: P.zip vs) m x = _
    unfold bindC
    exact bindC_get (i := i) (List.nodup_cons.mp nd).2 (by simpa using h1) (by simpa using h2) hk

/-- the names' values at the entry -/
def start (N : List Str) (vs : List V) : St := vs.map some ++ List.replicate (N.length - vs.length) none

/-- the context of a def's body, at its entry; an exception leaves the frame, then lies as CX says -/
def cxOf (CX : CXT) (P : Program) (w : World) (K : PySem.W.Frag) (mg : Str → Option Value) (base : Heap) (N : List Str) (qual : Str) (scope : Scope) (f : Addr) (cd : Value) (A : Around) (outer : List Env) (s : Shared) (H : Hp) (E : XK) : Cx where
  prog := P
  w := w
  K := K
  mg := mg
  base := base
  A := A.deeper (envOfC qual scope s.heap.objs.size f cd)
  N := N
  s₀ := s
  H₀ := H
  env := envOfC qual scope s.heap.objs.size f cd
  outer := outer
  stack := envOfC qual scope s.heap.objs.size f cd :: outer
  ex := []
  calm := true
  fn := fun _ => true
  pn := []
  xe := fun e s' => wpAny (model P w) (A.deeper (envOfC qual scope s.heap.objs.size f cd)) (leaving (envOfC qual scope s.heap.objs.size f cd) e) (fun _ s'' => CX outer H s E e s'') (fun e' s'' => CX outer H s E e' s'') s'

theorem cell_has {sc : Scope} {n : Nat} {x : Str} (h : sc.names.lookup x = some .cell) : ∃ c, (cellsFrom n sc.names []).lookup x = some c := by
  have q := PySem.W.cellsFrom_some sc.names n [] (.inl h)
  exact Option.isSome_iff_exists.mp q

theorem inv_start {CX : CXT} {P : Program} {w : World} {K : PySem.W.Frag} {mg : Str → Option Value} {base : Heap} {N ps : List Str} {qual : Str} {scope : Scope} {f : Addr} {cd : Value} {A : Around} {outer : List Env} {s s1 : Shared} {H : Hp} {E : XK} {us : List Value} {vs : List V}
    (S : FnScope N ps scope) (hd : A.handled = none) (e0 : Env0 P w K mg base A outer s H) (hl : vs.length = ps.length) (r : Vals vs us)
    (x : InCallC s s.heap.objs.size (bindL (envOfC qual scope s.heap.objs.size f cd).kindOf (ps.zip us) fun _ => none) (cellsFrom (s.heap.objs.size + 1) scope.names []) (bindC (envOfC qual scope s.heap.objs.size f cd).kindOf (ps.zip us) fun _ => none) s1) :
    Inv (cxOf CX P w K mg base N qual scope f cd A outer s H E) [] (start N vs) H s1 := by
  have hpl : ps.length ≤ N.length := by have := congrArg List.length S.pre; rw [List.length_take] at this; omega
  obtain ⟨h1, tk, rfl, hk⟩ := x.done
  have noA : ∀ b : Addr, b ∉ (cxOf CX P w K mg base N qual scope f cd A outer s H E).ex := fun b z => absurd (show b ∈ ([] : List Addr) from z) (by simp)
  refine ⟨⟨e0.mod, S.kind, rfl, rfl, Nat.le_refl _, fun y z c h1 h2 => ?_, fun y hy => ?_, fun y c _ h => ?_, fun _ => hd, Around.frames_deeper e0.frames, .inr ⟨rfl, rfl⟩, fun b z => absurd z (noA b), e0.bs, e0.bsz, fun b _ _ => noA b, fun b z => absurd z (noA b), e0.funs, e0.frf⟩,
    rfl, e0.bare, Un.kept hk, ⟨_, x.toInCall.ns, fun i y v h1 h2 h3 => ?_⟩, fun y c h => ⟨_, x.cell y c h⟩, e0.hok.fresh (Nat.le_refl _), fun y c h => ?_, fun p hp => absurd (show p ∈ ([] : List (Addr × Obj)) from hp) (by simp), e0.hok.kept hk, ?_⟩
  · exact name_of_addr x.apart (PySem.mem_of_lookup h1) (PySem.mem_of_lookup h2)
  · have hy : scope.names.lookup y = some .cell ∨ scope.names.lookup y = some .free := hy
    rcases hy with hy | hy
    · exact cell_has hy
    · exact absurd rfl (S.nofree _ (PySem.mem_of_lookup hy))
  · exact Nat.le_of_lt (x.above y c (PySem.mem_of_lookup h))
  · have hi : i < vs.length := by
      unfold start at h2
      by_cases hi : i < vs.length
      · exact hi
      · rw [List.getElem?_append_right (by simpa using hi)] at h2
        rw [List.getElem?_replicate] at h2
        split at h2 <;> cases h2
    have ha : vs[i]? = some v := by
      unfold start at h2
      rw [List.getElem?_append_left (by simpa using hi), List.getElem?_map] at h2
      cases e : vs[i]? with
      | none => rw [e] at h2; cases h2
      | some a => rw [e] at h2; cases h2; rfl
    obtain ⟨u, hu, rv⟩ := r.get ha
    have hp : ps[i]? = some y := by
      rw [← S.pre, List.getElem?_take_of_lt (by omega)]; exact h1
    have ndP : ps.Nodup := by rw [← S.pre]; exact S.nd.sublist (List.take_sublist _ _)
    refine ⟨u, rv, ?_⟩
    rcases S.par y (List.mem_of_getElem? hp) with k | k
    · exact .inl ⟨k, bindL_get ndP hp hu k⟩
    · obtain ⟨c, e⟩ := cell_has (n := s.heap.objs.size + 1) k
      refine .inr ⟨.inl k, c, e, ?_⟩
      have q := x.cell y c e
      rw [bindC_get ndP hp hu (by show scope.names.lookup y ≠ _; rw [k]; decide)] at q
      exact q
  · exact e0.hok.fresh (Nat.le_of_lt (x.above y c (PySem.mem_of_lookup h)))
  · unfold start
    show _ = N.length
    rw [List.length_append, List.length_map, List.length_replicate]
    omega

/-- THE RULE: a def (or a method) of the text, by its body. The body's reading t is chosen for each entry; it is run at the parameters' values -/
theorem fn_of {CX : CXT} {P : Program} {w : World} {K : PySem.W.Frag} {mg : Str → Option Value} {base : Heap} {k : Nat} {f : Addr} {name qual : Str} {params : Arguments} {body : List Stmt} {scope : Scope} {dV kV doc pm cdv ct oc : Value} {an od : Option Addr}
    {osl : Array (Option Value)} {N ps : List Str} {sp : Sp} (lk : K.lookup f = some ⟨oc, od, .func (PySem.W.fnOf name qual params body scope dV kV doc pm an cdv ct), osl⟩) (hcd : PySem.W.codeIn K cdv qual = true) (S : FnScope N ps scope)
    (len : ∀ vs H Q E, sp vs H Q E → vs.length = ps.length)
    (hbody : ∀ (A : Around) (outer : List Env) (s : Shared) (H : Hp) (vs : List V) (Q : VK) (E : XK), Room k (A.deeper (envOfC qual scope s.heap.objs.size f cdv)) → sp vs H Q E →
      ∃ t, PSs (cxOf CX P w K mg base N qual scope f cdv A outer s H E) body t ∧ t { nx := fun _ H' => Q .non H', rt := Q } (start N vs) H) :
    FnOk P w K mg base CX (k + 1) f (PySem.W.fnOf name qual params body scope dV kV doc pm an cdv ct) ps sp := by
  refine ⟨len, fun A outer s H args us vs Q E hr e0 hb r hsp => ?_⟩
  have hl := len _ _ _ _ hsp
  have KX : K.In s.heap := e0.mod.kin.keeps fun b o e => (e0.bs b o e).1
  have lim : s.heap.NoLimit := e0.mod.nolimit.keeps fun b o e => (e0.bs b o e).1
  have hkind : ∀ y ∈ ps.zip us, scope.names.lookup y.1 = some .local ∨ (scope.names.lookup y.1 = some .cell ∧ ((cellsFrom (s.heap.objs.size + 1) scope.names []).lookup y.1).isSome = true) := fun ⟨n, v⟩ hy => by
    rcases S.par n (List.of_mem_zip hy).1 with q | q
    · exact .inl q
    · exact .inr ⟨q, PySem.W.cellsFrom_some _ _ _ (.inl q)⟩
  refine codeAny_call_function hr.depth (KX _ _ lk) rfl S.co S.gen rfl (PySem.W.codeRec_of KX hcd) (hb _ _ _ _ ?_)
  refine wpAny_newFunctionEnv_cells S.kind hkind fun env he s1 x => ?_
  subst he
  refine ⟨lim.keeps x.toInCall.keep, codeAny_func ?_⟩
  obtain ⟨t, ht, hq⟩ := hbody A outer s H vs Q E (hr.deeper _) hsp
  have I : Inv (cxOf CX P w K mg base N qual scope f cdv A outer s H E) [] (start N vs) H s1 := inv_start S hr.hd e0 hl r x
  refine wpAny_mono (ht [] s1 (start N vs) H _ I hq) (fun fl s' hs => ?_) fun e s' hs => hs
  have fin : ∀ {σ' : St} {H' : Hp} {v : V} {u : Value}, Inv (cxOf CX P w K mg base N qual scope f cdv A outer s H E) [] σ' H' s' → RelV v u → Q v H' → CE outer P w H s Q u s' :=
    fun {σ' H' v u} J rv q => ⟨v, H', J.os, J.bare, J.base, J.hok, rv, q⟩
  cases fl with
  | ret u =>
    obtain ⟨v, σ', H', J, rv, q⟩ := hs
    exact fin J rv q
  | next =>
    obtain ⟨σ', H', J, q⟩ := hs
    exact fin (v := V.non) (u := Value.none) J rfl q
  | brk =>
    obtain ⟨_, _, _, q⟩ := hs
    exact False.elim q
  | cont =>
    obtain ⟨_, _, _, q⟩ := hs
    exact False.elim q
end L2

namespace L2
open PySem PySem.Spec PyProof.Rows
section
variable {X : Cx} {x : Str} {p pos : Pos} {e : Expr} {es : List Expr} {t : TA} {id T : String} {r : List V → Hp → VK → Prop}

def tCB (r : List V → Hp → VK → Prop) (t : TA) : TE := fun σ H Q => t σ H fun vs H1 => r vs H1 Q
/-- f(e, ..), f a built-in function -/
theorem pe_callB (hc : CallR X (.builtin id) r) (hg : Gl X x) (hm : X.mg x = none) (hv : bootBuiltins x = some (.builtin id)) (ha : PA X (e :: es) t) (hn : x ≠ "__name__" := by decide) (hdb : (x == ("__debug__" : Str)) = false := by decide)
    (he : starEach (e :: es) X.env = (false, eval e X.env) :: starEach es X.env := by rfl) (hpl : (backTo pos (starEach es X.env)).any (·.1) = false := by rfl) : PE X (.Call (.Name x p) (e :: es) [] pos) (tCB r t) := by
  intro pins s σ H Q I h
  refine wpAny_Call_Name_kw (ld_blt I hg hm hv ?_ hn hdb)
  exact PyProof.Rows.callWith_builtin1 (thn (ha pos pins s σ H _ I h) fun us s1 ⟨vs, H1, I1, r1, q1⟩ => hc pins s1 σ H1 vs us Q I1 r1 q1) he hpl
/-- T(e, ..), T a built-in type -/
theorem pe_callTy (hc : CallR X (.type T) r) (hg : Gl X x) (hm : X.mg x = none) (hv : bootBuiltins x = some (.type T)) (ha : PA X (e :: es) t) (hn : x ≠ "__name__" := by decide) (hdb : (x == ("__debug__" : Str)) = false := by decide)
    (he : starEach (e :: es) X.env = (false, eval e X.env) :: starEach es X.env := by rfl) (hpl : (backTo pos (starEach es X.env)).any (·.1) = false := by rfl) : PE X (.Call (.Name x p) (e :: es) [] pos) (tCB r t) := by
  intro pins s σ H Q I h
  refine wpAny_Call_Name_kw (ld_blt I hg hm hv ?_ hn hdb)
  exact PyProof.Rows.callWith_type1 (thn (ha pos pins s σ H _ I h) fun us s1 ⟨vs, H1, I1, r1, q1⟩ => hc pins s1 σ H1 vs us Q I1 r1 q1) he hpl
end
end L2

namespace HT
open PySem PyProof.Rows

/-- t < u of tuples of ints -/
def lexLt : List Int → List Int → Bool
  | [], [] => false
  | [], _ :: _ => true
  | _ :: _, [] => false
  | x :: xs, y :: ys => if x = y then lexLt xs ys else decide (x < y)
section
open PySem.SeqAt
open PySem.AutoSeq1 (wpAny_loadPart')
open PySem.MeetsSeq PySem.MeetsSeq2 PySem.MeetsSeq3

end

section
variable {prog : Program} {w : World} {A : Around} {E : Value → Shared → Prop} {s : Shared}

/-! ### t[a:b], not the whole -/
/-- a slice's bound as a place among n (d where it is left out) -/
def sIx (n d : Nat) : Option Int → Nat
  | none => d
  | some v => if v < 0 then (v + (n : Int)).toNat else min v.toNat n
end
end HT

namespace L2
open PySem PySem.Spec PyProof.Rows

/-! ### the parts of a slice -/
abbrev TO := St → Hp → (Option Int → Hp → Prop) → Prop
/-- a slice's part (left out, or an int) -/
def PO (X : Cx) (e : Option Expr) (t : TO) : Prop :=
  ∀ (pins : List (Addr × Obj)) (s : Shared) (σ : St) (H : Hp) (Q : Option Int → Hp → Prop), Inv X pins σ H s → t σ H Q →
    wpAny (model X.prog X.w) X.A (evalPart e X.env) (fun u s' => ∃ o H', Inv X pins σ H' s' ∧ IsPart u o ∧ Q o H') X.xe s
def tNoPart : TO := fun _ H Q => Q none H
def tPart (t : TE) : TO := fun σ H Q => t σ H fun x H1 => ∃ i, x = .int i ∧ Q (some i) H1

theorem intsAre_of {ns : List Int} : ∀ {us : List Value}, Vals (ns.map V.int) us → IntsAre us ns := by
  induction ns with
  | nil => intro us r; rw [List.map_nil] at r; cases r; exact .nil
  | cons n ns ih =>
    intro us r
    rw [List.map_cons] at r
    cases r with
    | cons r1 r2 =>
      obtain ⟨t, e⟩ := r1
      subst e
      exact .cons n t (ih r2)

section
variable {X : Cx} {e : Expr} {te : TE} {lo hi : Option Expr} {tl th : TO} {pos p2 : Pos}

/-- what a slice of a value is, by values: the slice object stands at sl -/
def SlR (X : Cx) (r : V → Option Int → Option Int → Hp → VK → Prop) : Prop :=
  ∀ (pins : List (Addr × Obj)) (s : Shared) (σ : St) (H : Hp) (x : V) (v vl vu : Value) (lo hi : Option Int) (sl : Addr) (Q : VK), Inv X pins σ H s → RelV x v → s.heap.IsSliceOf sl vl vu .none → IsPart vl lo → IsPart vu hi → r x lo hi H Q →
    ∃ T id, typeLookup (.type T) "__getitem__" = pure (some (.builtin id)) ∧ s.TypeIs v T ∧ wpAny (model X.prog X.w) X.A (getItem v (.ref sl)) (EP X pins σ Q) X.xe s
def tSl (r : V → Option Int → Option Int → Hp → VK → Prop) (te : TE) (tl th : TO) : TE := fun σ H Q => te σ H fun x H1 => tl σ H1 fun l H2 => th σ H2 fun u H3 => r x l u H3 Q
/-- the items of xs[lo:hi] -/
def cutV (xs : List V) (lo hi : Option Int) : List V := (xs.drop (HT.sIx xs.length 0 lo)).take (HT.sIx xs.length xs.length hi - HT.sIx xs.length 0 lo)
/-- t[lo:hi], not the whole of it (the whole would be t itself) -/
def rSlT (K : PySem.W.Frag) : V → Option Int → Option Int → Hp → VK → Prop := fun x lo hi H Q => ∃ a xs, x = .ref a ∧ SqT K H a xs ∧
  ¬ (HT.sIx xs.length 0 lo = 0 ∧ HT.sIx xs.length xs.length hi = xs.length) ∧ ∀ p, H p = none → Q (.ref p) (upd H p (.tup (cutV xs lo hi)))
/-! ### t < u, t + u -/
def rLtT (K : PySem.W.Frag) : R2 := fun x y H Q => ∃ a b ns ms, x = .ref a ∧ y = .ref b ∧ SqT K H a (ns.map V.int) ∧ SqT K H b (ms.map V.int) ∧ Q (.bl (HT.lexLt ns ms)) H
/-- t + u, t not empty: u empty gives t itself -/
def rCatT (K : PySem.W.Frag) : R2 := fun x y H Q => ∃ a b xs ys, x = .ref a ∧ y = .ref b ∧ SqT K H a xs ∧ SqT K H b ys ∧ xs ≠ [] ∧ xs.length + ys.length ≤ sizeLine ∧
  (ys = [] → Q (.ref a) H) ∧ (ys ≠ [] → ∀ p, H p = none → Q (.ref p) (upd H p (.tup (xs ++ ys))))
end
end L2

namespace L2
open PySem PySem.Spec PyProof.Rows

/-! ### places -/
/-- the place that an index of any sign means -/
def ixN (n : Nat) (i : Int) : Option Nat := if 0 ≤ i then (if i < n then some i.toNat else none) else if -(n : Int) ≤ i then some (i + n).toNat else none
def atI {α : Type} (xs : List α) (i : Int) : Option α := (ixN xs.length i).bind fun j => xs[j]?
theorem ixN_seq {n : Nat} {i : Int} {j : Nat} (h : ixN n i = some j) : seqIndex? i n = some j ∧ j < n ∧ -(n : Int) ≤ i ∧ i < n := by
  unfold ixN at h
  by_cases h0 : 0 ≤ i
  · rw [if_pos h0] at h
    by_cases h1 : i < n
    · rw [if_pos h1] at h
      have e : i.toNat = j := Option.some.inj h
      exact ⟨by rw [seqIndex_of h0 h1, e], by omega, by omega, h1⟩
    · rw [if_neg h1] at h; cases h
  · rw [if_neg h0] at h
    by_cases h1 : -(n : Int) ≤ i
    · rw [if_pos h1] at h
      have e : (i + n).toNat = j := Option.some.inj h
      exact ⟨by rw [seqIndex_neg (by omega) h1, e], by omega, h1, by omega⟩
    · rw [if_neg h1] at h; cases h
theorem atI_get {α : Type} {xs : List α} {i : Int} {v : α} (h : atI xs i = some v) : ∃ j, seqIndex? i xs.length = some j ∧ xs[j]? = some v ∧ j < xs.length ∧ -(xs.length : Int) ≤ i ∧ i < xs.length := by
  unfold atI at h
  cases e : ixN xs.length i with
  | none => rw [e] at h; cases h
  | some j =>
    rw [e] at h
    obtain ⟨h1, h2, h3, h4⟩ := ixN_seq e
    exact ⟨j, h1, h, h2, h3, h4⟩
theorem atI_nat {α : Type} {xs : List α} {j : Nat} {v : α} (h : xs[j]? = some v) : atI xs (j : Int) = some v := by
  have hj : j < xs.length := (List.getElem?_eq_some_iff.mp h).1
  have e : ixN xs.length (j : Int) = some j := by
    unfold ixN
    rw [if_pos (by omega), if_pos (by omega)]; simp
  unfold atI; rw [e]; exact h
/-! ### what may be subscripted -/
/-- what stands as an index of a plain subscript -/
def PlainIx (b : Expr) : Prop := ∀ o i, subscripted b false o i = operate [o, i] (getItem o i)
/-- a subscript by values -/
def IxR (X : Cx) (r : R2) : Prop :=
  ∀ (value slice : Expr) (pins : List (Addr × Obj)) (s : Shared) (σ : St) (H : Hp) (x y : V) (v u : Value) (Q : VK), Inv X pins σ H s → RelV x v → RelV y u → r x y H Q →
    subscripted slice false v u = operate [v, u] (getItem v u) → wpAny (model X.prog X.w) X.A (subscriptTail value slice v u) (EP X pins σ Q) X.xe s
/-- a call of a builtin's method by values: the receiver, the arguments -/
def MtR (X : Cx) (id : String) (r : V → List V → Hp → VK → Prop) : Prop :=
  ∀ (pins : List (Addr × Obj)) (s : Shared) (σ : St) (H : Hp) (x : V) (xs : List V) (v : Value) (us : List Value) (Q : VK), Inv X pins σ H s → RelV x v → Vals xs us → r x xs H Q →
    wpAny (model X.prog X.w) X.A (call (.builtin id) (v :: us)) (EP X pins σ Q) X.xe s
section
variable {X : Cx} {a b : Expr} {ta tb : TE} {pos : Pos}
/-- a[b] -/
theorem pe_ix {r : R2} (hr : IxR X r) (ha : PE X a ta) (hb : PE X b tb) (hs : PlainIx b) : PE X (.Subscript a b pos) (tOp r ta tb) := by
  intro pins s σ H Q I h
  exact Subscript_ (binT ha hb I h fun v u s2 x y H2 I2 rx ry q => hr a b pins s2 σ H2 x y v u Q I2 rx ry q (hs _ _))

def rIxL (K : PySem.W.Frag) : R2 := fun x y H Q => ∃ p xs i v, x = .ref p ∧ y = .int i ∧ SqL K H p xs ∧ atI xs i = some v ∧ Q v H
def rIxT (K : PySem.W.Frag) : R2 := fun x y H Q => ∃ p xs i v, x = .ref p ∧ y = .int i ∧ SqT K H p xs ∧ atI xs i = some v ∧ Q v H
def rIxS : R2 := fun x y H Q => ∃ z i c, x = .str z ∧ y = .int i ∧ z.length ≤ sizeLine ∧ atI z.cps.toList i = some c ∧ Q (.str ⟨#[c]⟩) H
theorem ix_list : IxR X (rIxL X.K) := by
  intro value slice pins s σ H x y v u Q I rx ry h hs
  obtain ⟨p, xs, i, z, rfl, rfl, hq, he, q⟩ := h
  cases rx
  obtain ⟨t, rfl⟩ := ry
  obtain ⟨its, r, pl, hz⟩ := I.list hq
  obtain ⟨j, h1, h2, h3, h4, h5⟩ := atI_get he
  obtain ⟨w, ew, rw'⟩ := r.get h2
  have hl := r.length
  have hn := line63
  have fin : EP X pins σ Q w s := ⟨z, H, I, rw', q⟩
  by_cases h0 : 0 ≤ i
  · have hj : i.toNat = j := by
      rw [seqIndex_of h0 h5] at h1
      exact Option.some.inj h1
    exact item_listR pl.isList h0 (by omega) (by rw [hj]; simpa using ew) fin hs
  · have hj : (i + (its.toArray.size : Int)).toNat = j := by
      rw [seqIndex_neg (by omega) h4] at h1
      rw [List.size_toArray, ← hl]
      exact Option.some.inj h1
    exact subscriptTail_builtinR (x := w) pl.isList.typeIs slot_list_getitem.lookup
      (wpAny_getItem_list_neg (Q := fun r s' => r = w ∧ EP X pins σ Q r s') pl.isList (by omega) (by rw [List.size_toArray] <;> omega) (by omega) (by rw [hj]; simpa using ew) ⟨rfl, fin⟩) hs
/-- list, tuple or str -/
def rIx (K : PySem.W.Frag) : R2 := fun x y H Q => rIxL K x y H Q ∨ rIxT K x y H Q ∨ rIxS x y H Q
/-! ### xs[i] = v, any sign -/
/-- the list's object behind a store -/
theorem mapSeq_set (its : List Value) (n j : Nat) (u : Value) : Obj.mapSeq (·.setIfInBounds j u) { cls := .type "list", data := .seq its.toArray n } = { cls := .type "list", data := .seq (its.set j u).toArray n } := by
  simp [Obj.mapSeq]
theorem Inv.lst {pins : List (Addr × Obj)} {σ : St} {H : Hp} {s : Shared} {p : Addr} {xs : List V} (I : Inv X pins σ H s) (h : H p = some (.lst xs)) :
    ∃ (its : List Value) (n : Nat), Vals xs its ∧ s.heap.get? p = some { cls := .type "list", data := .seq its.toArray n } ∧ xs.length ≤ sizeLine := by
  obtain ⟨z, its, n, r, e⟩ := I.hok p _ h
  exact ⟨its, n, r, e, z⟩
/-- the list at p is written by an update of its object -/
theorem Inv.lstUpd {pins : List (Addr × Obj)} {σ : St} {H : Hp} {s : Shared} {p : Addr} {xs ys : List V} {its its' : List Value} {n n' : Nat} {f : Obj → Obj} (I : Inv X pins σ H s) (h : H p = some (.lst xs))
    (ho : s.heap.get? p = some { cls := .type "list", data := .seq its.toArray n }) (hf : f { cls := .type "list", data := .seq its.toArray n } = { cls := .type "list", data := .seq its'.toArray n' }) (r : Vals ys its') (hz : ys.length ≤ sizeLine) (t : Nat) :
    Inv X pins σ (upd H p (.lst ys)) { s with heap := s.heap.update p f, toks := t } := by
  have e : (s.heap.update p f).get? p = some { cls := .type "list", data := .seq its'.toArray n' } := by
    rw [Heap.get?_update_self f ho (by rw [hf] <;> rfl), hf]
  refine I.write (x := p) (e := p) (by rw [h]; trivial) (.inl rfl) (fun b u hb q => (Heap.get?_update_other _ _ (Ne.symm hb)).trans q) ⟨_, e⟩ ?_
  exact ⟨hz, its', n', r, e⟩
def rSetL : V → V → V → Hp → (Hp → Prop) → Prop := fun o i v H Q => ∃ p xs k j, o = .ref p ∧ i = .int k ∧ H p = some (.lst xs) ∧ ixN xs.length k = some j ∧ Q (upd H p (.lst (xs.set j v)))
theorem set_list : PSet X rSetL := by
  intro pins s σ H o i v ov iv u Q I ro ri rv h
  obtain ⟨p, xs, k, j, rfl, rfl, hp, hj, q⟩ := h
  cases ro
  obtain ⟨t, rfl⟩ := ri
  obtain ⟨its, n, r, ho, hz⟩ := I.lst hp
  obtain ⟨h1, h2, h3, h4⟩ := ixN_seq hj
  have hl := r.length
  have hn := line63
  have I' : Inv X pins σ (upd H p (.lst (xs.set j v))) { s with heap := s.heap.update p (Obj.mapSeq (·.setIfInBounds j u)) } :=
    I.lstUpd hp ho (mapSeq_set its n j u) (r.set rv j) (by rw [List.length_set]; exact hz) s.toks
  by_cases h0 : 0 ≤ k
  · have hk : k.toNat = j := by
      rw [seqIndex_of h0 h4] at h1
      exact Option.some.inj h1
    exact PySem.W.ki_setAt ho h0 (by omega) (by rw [List.size_toArray, ← hl]; exact h4) (by rw [hk]; exact ⟨_, I', q⟩)
  · have hk : (k + (its.toArray.size : Int)).toNat = j := by
      rw [seqIndex_neg (by omega) h3] at h1
      rw [List.size_toArray, ← hl]
      exact Option.some.inj h1
    exact PySem.W.ki_setBack ho (by omega) (by rw [List.size_toArray, ← hl]; exact h3) (by omega) (by rw [hk]; exact ⟨_, I', q⟩)

/-! ### slices -/
/-- xs[lo:hi] of a list: a new list -/
def rSlL (K : PySem.W.Frag) : V → Option Int → Option Int → Hp → VK → Prop := fun x lo hi H Q => ∃ a xs, x = .ref a ∧ SqL K H a xs ∧ ∀ p, H p = none → Q (.ref p) (upd H p (.lst (cutV xs lo hi)))
/-! ### in, not in: flat items -/
def flatV : V → Bool
  | .non => true
  | .bl _ => true
  | .int _ => true
  | .str _ => true
  | _ => false
/-- == of flat values -/
def eqV : V → V → Bool
  | .non, .non => true
  | .bl a, .bl b => a == b
  | .bl a, .int b => (if a then 1 else 0) == b
  | .int a, .bl b => a == (if b then 1 else 0)
  | .int a, .int b => a == b
  | .str a, .str b => a == b
  | _, _ => false
/-- the items' answers, read off the values (a value's own answer does not lean on its token) -/
def eqU (x : V) (u : Value) : Bool := match u with
  | .none => eqV .non x
  | .bool b => eqV (.bl b) x
  | .int i _ => eqV (.int i) x
  | .str z _ => eqV (.str z) x
  | _ => false
def inV (x : V) (xs : List V) : Bool := xs.any fun y => eqV y x
/-- x in a list or tuple of flat items -/
def rIn (K : PySem.W.Frag) (neg : Bool) : R2 := fun x y H Q => ∃ p xs, y = .ref p ∧ (SqL K H p xs ∨ SqT K H p xs) ∧ flatV x = true ∧ xs.all flatV = true ∧ Q (.bl (if neg then !inV x xs else inV x xs)) H
/-! ### len, list(x), tuple(x) of any list or tuple that is read -/
theorem call_len_seq : CallR X (.builtin "len") (fun xs H Q => ∃ p ys, xs = [.ref p] ∧ (SqL X.K H p ys ∨ SqT X.K H p ys) ∧ Q (.int ys.length) H) := by
  intro pins s σ H xs us Q I r h
  obtain ⟨p, ys, rfl, hq, q⟩ := h
  obtain ⟨u, rfl, rx⟩ := vals1 r
  cases rx
  have hn := line63
  rcases hq with hq | hq
  · obtain ⟨its, r', pl, hz⟩ := I.list hq
    have hlen := r'.length
    exact Calls.call_len_list pl.isList (by simp only [List.size_toArray] <;> omega) ⟨.int ys.length, H, I.tok _, ⟨s.toks + 1, by rw [List.size_toArray, hlen]⟩, q⟩
  · obtain ⟨its, r', pl, hz⟩ := I.tuple hq
    have hlen := r'.length
    exact len_tuple pl (by simp only [List.size_toArray] <;> omega) ⟨.int ys.length, H, I.tok _, ⟨s.toks + 1, by rw [List.size_toArray, hlen]⟩, q⟩
theorem call_list_of : CallR X (.type "list") (fun xs H Q => ∃ p ys, xs = [.ref p] ∧ (SqL X.K H p ys ∨ SqT X.K H p ys) ∧ ∀ l, H l = none → Q (.ref l) (upd H l (.lst ys))) := by
  intro pins s σ H xs us Q I r h
  obtain ⟨p, ys, rfl, hq, q⟩ := h
  obtain ⟨u, rfl, rx⟩ := vals1 r
  cases rx
  have fin : ∀ (its : List Value), Vals ys its → ys.length ≤ sizeLine → ∀ (h' : Heap) (c' : Nat), (∀ b o', s.heap.get? b = some o' → h'.get? b = some o') →
      h'.get? s.heap.objs.size = some { cls := .type "list", dict := none, data := .seq its.toArray c', slots := #[] } → EP X pins σ Q (.ref s.heap.objs.size) { s with heap := h' } := fun its r' hz h' c' kp e =>
    ⟨.ref s.heap.objs.size, _, I.laid (t' := s.toks) kp (Nat.le_refl _) (show ObjOk X.prog X.w _ h' _ (.lst ys) from ⟨hz, its, c', r', e⟩), rfl, q _ (I.hok.fresh (Nat.le_refl _))⟩
  rcases hq with hq | hq
  · obtain ⟨its, r', pl, hz⟩ := I.list hq
    have hlen := r'.length
    obtain ⟨o, ho, hc, n, hd⟩ := pl.isList
    exact call_list_seq p (.inl rfl) ho hc hd (fun h' c' kp e => fin its r' hz h' c' kp e) (by simp only [List.size_toArray] <;> omega)
  · obtain ⟨its, r', pl, hz⟩ := I.tuple hq
    have hlen := r'.length
    obtain ⟨o, ho, hc, n, hd⟩ := pl
    exact call_list_seq p (.inr rfl) ho hc hd (fun h' c' kp e => fin its r' hz h' c' kp e) (by simp only [List.size_toArray] <;> omega)
/-! ### the call of a builtin's method: o.m(..) -/
/-- the value is of that builtin type -/
def tyV (K : PySem.W.Frag) (T : String) (x : V) (H : Hp) : Prop := match x with
  | .str _ => T = "str"
  | .int _ => T = "int"
  | .ref p => (T = "list" ∧ ∃ xs, SqL K H p xs) ∨ (T = "tuple" ∧ ∃ o, K.lookup p = some o ∧ o.cls = .type "tuple" ∧ o.dict = none) ∨
      (T = "dict" ∧ ((∃ kvs, H p = some (.dK kvs)) ∨ ∃ kvs, H p = some (.dT kvs))) ∨ (T = "set" ∧ ∃ S n, H p = some (.set S n))
  | _ => False
theorem tyV_is {pins : List (Addr × Obj)} {σ : St} {H : Hp} {s : Shared} {T : String} {x : V} {v : Value} (I : Inv X pins σ H s) (r : RelV x v) (ty : tyV X.K T x H) :
    s.TypeIs v T ∧ ∀ a, v = .ref a → ∃ ob, s.heap.get? a = some ob ∧ ob.dict = none := by
  cases x with
  | str z =>
    obtain ⟨t, rfl⟩ := r
    cases (show T = "str" from ty)
    exact ⟨typeIs_str s z t, fun _ e => nomatch e⟩
  | int i =>
    obtain ⟨t, rfl⟩ := r
    cases (show T = "int" from ty)
    exact ⟨typeIs_int s i t, fun _ e => nomatch e⟩
  | ref p =>
    cases r
    rcases ty with ⟨rfl, xs, hq⟩ | ⟨rfl, o, hk, hc, hd⟩ | ⟨rfl, hk⟩ | ⟨rfl, S, n, hk⟩
    · obtain ⟨its, _, pl, _⟩ := I.list hq
      refine ⟨pl.isList.typeIs, fun a e => ?_⟩
      cases e
      obtain ⟨o, n, e, c, hd, _⟩ := pl
      exact ⟨o, e, hd⟩
    · refine ⟨⟨o, I.kIn p o hk, hc⟩, fun a e => ?_⟩
      cases e
      exact ⟨o, I.kIn _ o hk, hd⟩
    · have z : ∃ o, s.heap.get? p = some o ∧ o.ExactDict := by
        rcases hk with ⟨kvs, hk⟩ | ⟨kvs, hk⟩
        · obtain ⟨_, _, _, _, o, _, _, e, ex, _⟩ := I.hok p _ hk
          exact ⟨o, e, ex⟩
        · obtain ⟨_, _, _, _, o, _, _, e, ex, _⟩ := I.hok p _ hk
          exact ⟨o, e, ex⟩
      obtain ⟨o, e, ex⟩ := z
      refine ⟨⟨o, e, ex.1⟩, fun a e2 => ?_⟩
      cases e2
      exact ⟨o, e, ex.2.1⟩
    · obtain ⟨o, _, _, _, e, ex, _⟩ := I.hok p _ hk
      refine ⟨⟨o, e, ex.1⟩, fun a e2 => ?_⟩
      cases e2
      exact ⟨o, e, ex.2.1⟩
  | _ => exact False.elim ty
def tBM0 (K : PySem.W.Frag) (T : String) (r : V → List V → Hp → VK → Prop) (to : TE) : TE := fun σ H Q => to σ H fun x H1 => tyV K T x H1 ∧ r x [] H1 Q
def tBM (K : PySem.W.Frag) (T : String) (r : V → List V → Hp → VK → Prop) (to : TE) (t : TA) : TE := fun σ H Q => to σ H fun x H1 => tyV K T x H1 ∧ t σ H1 fun xs H2 => r x xs H2 Q
variable {o e : Expr} {es : List Expr} {to : TE} {t : TA} {name : Str} {apos cpos : Pos} {T id : String} {r : V → List V → Hp → VK → Prop}
theorem pe_bm (pa : PlainAttrs T) (slot : Slot T name id) (hty : typeOf (.builtin id) = pure (.type "method_descriptor")) (hm : MtR X id r) (ho : PE X o to) (ha : PA X (e :: es) t)
    (hbase : attributeBase o name X.env (eval o X.env) = eval o X.env := by rfl)
    (hfew : ((backTo cpos (starEach (e :: es) X.env)).all (fun x => !x.1) && (backToKw cpos (keywordEach [] X.env)).all (fun x => x.1.isSome)
      && decide ((e :: es).length + ([] : List Keyword).length + (if ([] : List Keyword).isEmpty then 0 else 1) < 30)) = true := by rfl)
    (hline : (apos.endLine == cpos.line) = true := by rfl) (hs : starEach (e :: es) X.env = (false, eval e X.env) :: starEach es X.env := by rfl) (hplain : (backTo cpos (starEach es X.env)).any (·.1) = false := by rfl) :
    PE X (.Call (.Attribute o name apos) (e :: es) [] cpos) (tBM X.K T r to t) := by
  intro pins s σ H Q I h
  refine wpAny_Call_method_late hbase hfew hline rfl (thn (ho pins s σ H _ I h) fun v s1 ⟨x, H1, I1, r1, ty, q1⟩ => ?_)
  obtain ⟨h1, h2⟩ := tyV_is I1 r1 ty
  refine ⟨T, id, pa, slot, hty, h1, h2, ?_⟩
  have hA := ha cpos pins s1 σ H1 _ I1 q1
  rw [hs] at hA ⊢
  refine Calls.callWith_builtin (by show (false || (backTo cpos (starEach es X.env)).any (·.1)) = false; rw [hplain] <;> rfl) (Calls.evalArgs_plain ?_)
  exact thn hA fun us s2 ⟨vs, H2, I2, r2, q2⟩ => hm pins s2 σ H2 x vs v us Q I2 r1 r2 q2
/- xs.append(e), list.index on a module's tuple .. are MtR facts of 06m -/
end
end L2

namespace L2
open PySem PySem.Spec PyProof.Rows

def MtM (X : Cx) (id : String) (r : V → List V → Hp → VK → Prop) : Prop :=
  ∀ (pins : List (Addr × Obj)) (s : Shared) (σ : St) (H : Hp) (x : V) (xs : List V) (v : Value) (us : List Value) (Q : VK), Inv X pins σ H s → RelV x v → Vals xs us → r x xs H Q →
    wpAny (model X.prog X.w) X.A (call (.builtin id) (v :: us)) (EP X pins σ Q) X.xe s

/-! ### lists of values -/
theorem Vals.one : ∀ {x : V} {us : List Value}, Vals [x] us → ∃ u, us = [u] ∧ RelV x u
  | _, _, .cons r .nil => ⟨_, rfl, r⟩
section
variable {X : Cx} {pins : List (Addr × Obj)} {σ : St} {H : Hp} {s : Shared} {l b : Addr} {xs ys zs : List V}

/-! ### the two steps: a tracked list is rewritten, a new list is laid -/
theorem Inv.lset {its its' : List Value} {n : Nat} {f : Array Value → Array Value} {t' : Nat} (I : Inv X pins σ H s) (hH : H l = some (.lst xs))
    (e : s.heap.get? l = some { cls := .type "list", data := .seq its.toArray n }) (hf : f its.toArray = its'.toArray) (hv : Vals ys its') (hz : ys.length ≤ sizeLine) :
    Inv X pins σ (upd H l (.lst ys)) { s with heap := s.heap.update l (Obj.mapSeq f), toks := t' } := by
  have q := PySem.IsL.update e f
  rw [hf] at q
  refine I.write (x := l) (e := l) (by rw [hH]; exact trivial) (.inl rfl) (fun b' u hb hu => (Heap.get?_update_other s.heap (Obj.mapSeq f) (Ne.symm hb)).trans hu) ⟨_, q⟩ ?_
  exact ⟨hz, its', _, hv, q⟩
theorem Inv.lnew {its : List Value} {t' : Nat} (I : Inv X pins σ H s) (hv : Vals ys its) (hz : ys.length ≤ sizeLine) :
    Inv X pins σ (upd H s.heap.objs.size (.lst ys)) { s with heap := s.heap.push { cls := .type "list", data := .seq its.toArray }, toks := t' } :=
  I.laid (fun _ _ q => Heap.get?_push_of_some _ q) (Nat.le_refl _) ⟨hz, its, 0, hv, Heap.get?_push_size _ rfl⟩
theorem Inv.fresh (I : Inv X pins σ H s) : H s.heap.objs.size = none := I.hok.fresh (Nat.le_refl _)
theorem Inv.lstM (I : Inv X pins σ H s) (hH : H l = some (.lst xs)) : xs.length ≤ sizeLine ∧ ∃ (its : List Value) (n : Nat), Vals xs its ∧ xs.length = its.length ∧ s.heap.get? l = some { cls := .type "list", data := .seq its.toArray n } := by
  obtain ⟨z, its, n, r, e⟩ := I.hok l _ hH
  exact ⟨z, its, n, r, r.length, e⟩

end

section
variable {X : Cx}

/-! ### methods -/
def rAppend : V → List V → Hp → VK → Prop := fun x vs H Q => ∃ l xs y, x = .ref l ∧ vs = [y] ∧ H l = some (.lst xs) ∧ xs.length < sizeLine ∧ Q .non (upd H l (.lst (xs ++ [y])))
theorem mt_append : MtM X "list.append" rAppend := by
  intro pins s σ H x vs v us Q I rx rv h
  obtain ⟨l, xs, y, rfl, rfl, hH, hz, q⟩ := h
  cases rx
  obtain ⟨u, rfl, ru⟩ := rv.one
  obtain ⟨z, its, n, r, hl, e⟩ := I.lstM hH
  refine call_meets F.slot_list_append ⟨_, e, rfl⟩ F.entry_list_append (F.args_list_append_2 _ _) (PySem.list_append l its.toArray n u (by rw [List.size_toArray]; omega)) ⟨e, ?_⟩
  refine ⟨.non, _, I.lset (its' := its ++ [u]) hH e (by simp) (r.append (.cons ru .nil)) ?_, rfl, q⟩
  rw [List.length_append, List.length_singleton]
  omega

def rExtend : V → List V → Hp → VK → Prop := fun x vs H Q => ∃ l b xs zs, x = .ref l ∧ vs = [.ref b] ∧ H l = some (.lst xs) ∧ H b = some (.lst zs) ∧ xs.length + zs.length ≤ sizeLine ∧ Q .non (upd H l (.lst (xs ++ zs)))
def rPop : V → List V → Hp → VK → Prop := fun x vs H Q => ∃ l xs y, x = .ref l ∧ vs = [] ∧ H l = some (.lst xs) ∧ xs[xs.length - 1]? = some y ∧ Q y (upd H l (.lst xs.dropLast))
def rPopAt : V → List V → Hp → VK → Prop := fun x vs H Q => ∃ l xs i k y, x = .ref l ∧ vs = [.int i] ∧ H l = some (.lst xs) ∧ -(2 ^ 63) ≤ i ∧ i < 2 ^ 63 ∧ seqIndex? i xs.length = some k ∧ xs[k]? = some y ∧ Q y (upd H l (.lst (xs.eraseIdx k)))
def rReverse : V → List V → Hp → VK → Prop := fun x vs H Q => ∃ l xs, x = .ref l ∧ vs = [] ∧ H l = some (.lst xs) ∧ Q .non (upd H l (.lst xs.reverse))
def rClear : V → List V → Hp → VK → Prop := fun x vs H Q => ∃ l xs, x = .ref l ∧ vs = [] ∧ H l = some (.lst xs) ∧ Q .non (upd H l (.lst []))
/-! ### list + list, list += list, list * int -/
def rCat : R2 := fun x y H Q => ∃ l b xs zs, x = .ref l ∧ y = .ref b ∧ H l = some (.lst xs) ∧ H b = some (.lst zs) ∧ xs.length + zs.length ≤ sizeLine ∧ ∀ p, H p = none → Q (.ref p) (upd H p (.lst (xs ++ zs)))
theorem op_cat : OpR X (binaryOp .Add) rCat := by
  intro pins s σ H x y v u Q I rx ry h
  obtain ⟨l, b, xs, zs, rfl, rfl, hH, hB, hz, q⟩ := h
  cases rx
  cases ry
  obtain ⟨z, its, n, r, hl, e⟩ := I.lstM hH
  obtain ⟨z2, its2, n2, r2, hl2, e2⟩ := I.lstM hB
  refine PySem.P.add_list e e2 ?_ (by rw [List.size_toArray, List.size_toArray]; omega)
  have ea : its.toArray ++ its2.toArray = (its ++ its2).toArray := by simp
  rw [ea]
  exact ⟨.ref _, _, I.lnew (t' := s.toks) (r.append r2) (by rw [List.length_append]; omega), rfl, q _ I.fresh⟩
/-- a list times an int (a negative one is nothing) -/
def rRep : R2 := fun x y H Q => ∃ l k xs, x = .ref l ∧ y = .int k ∧ H l = some (.lst xs) ∧ -(2 ^ 63) ≤ k ∧ k < 2 ^ 63 ∧ xs.length * k.toNat ≤ sizeLine ∧
  ∀ p, H p = none → Q (.ref p) (upd H p (.lst (List.replicate k.toNat xs).flatten))
/-! ### del xs[i] -/
end

/-! ### xs[a:b] = ys -/
section
variable {prog : Program} {w : World} {A : Around} {E : Value → Shared → Prop} {s : Shared}
set_option maxRecDepth 100000 in
end

section
variable {X : Cx}
end
end L2
namespace L2
open PySem PySem.Spec PyProof.Rows

/-! ### lists of pairs as tables -/
section
variable {κ : Type} [DecidableEq κ]
def valV (kvs : List (κ × V)) (k : κ) : Option V := (kvs.find? fun kv => decide (kv.1 = k)).map (·.2)
/-- in its place, or at the end -/
def putK (kvs : List (κ × V)) (k : κ) (v : V) : List (κ × V) :=
  if (kvs.any fun kv => decide (kv.1 = k)) = true then kvs.map (fun kv => if kv.1 = k then (kv.1, v) else kv) else kvs ++ [(k, v)]
def dropK (kvs : List (κ × V)) (k : κ) : List (κ × V) := kvs.filter fun kv => decide (kv.1 ≠ k)

theorem valV_pos {p : κ × V} {r : List (κ × V)} {k : κ} (e : p.1 = k) : valV (p :: r) k = some p.2 := by simp [valV, List.find?_cons, e]
theorem valV_neg {p : κ × V} {r : List (κ × V)} {k : κ} (e : ¬ p.1 = k) : valV (p :: r) k = valV r k := by simp [valV, List.find?_cons, e]
theorem valV_any (k : κ) : ∀ kvs : List (κ × V), (kvs.any fun kv => decide (kv.1 = k)) = (valV kvs k).isSome
  | [] => rfl
  | p :: r => by
    rw [List.any_cons]
    by_cases e : p.1 = k
    · simp only [valV_pos e, decide_eq_true e, Bool.true_or, Option.isSome_some]
    · rw [valV_neg e, decide_eq_false e, Bool.false_or]; exact valV_any k r
theorem length_putK (kvs : List (κ × V)) (k : κ) (v : V) : (putK kvs k v).length ≤ kvs.length + 1 := by
  unfold putK
  split
  · rw [List.length_map]; omega
  · rw [List.length_append, List.length_cons, List.length_nil]; omega
theorem putK_new {kvs : List (κ × V)} {k : κ} (v : V) (h : valV kvs k = none) : putK kvs k v = kvs ++ [(k, v)] := by
  unfold putK
  rw [valV_any, h]
  exact if_neg (by decide)

theorem RelO.isSome_eq {o : Option V} {u : Option Value} (r : RelO o u) : o.isSome = u.isSome := by
  cases o with
  | none => cases u with
    | none => rfl
    | some _ => exact (show False from r).elim
  | some _ => cases u with
    | none => exact (show False from r).elim
    | some _ => rfl
/-- raw tables of the same keys -/
theorem KV.val {kvs : List (κ × V)} {vs : List (κ × Value)} (r : KV kvs vs) (k : κ) : RelO (valV kvs k) (valueAt vs k) := by
  unfold KV at r
  induction r with
  | nil => exact True.intro
  | @cons p q ps qs h t ih =>
    obtain ⟨h1, h2⟩ := h
    by_cases e : p.1 = k
    · have e' : q.1 = k := h1.symm.trans e
      have b : valueAt (q :: qs) k = some q.2 := by simp [valueAt, List.find?_cons, e']
      rw [valV_pos e, b]; exact h2
    · have e' : ¬ q.1 = k := fun z => e (h1.trans z)
      have b : valueAt (q :: qs) k = valueAt qs k := by simp [valueAt, List.find?_cons, e']
      rw [valV_neg e, b]; exact ih
theorem KV.any {kvs : List (κ × V)} {vs : List (κ × Value)} (r : KV kvs vs) (k : κ) : (kvs.any fun kv => decide (kv.1 = k)) = vs.any fun kv => decide (kv.1 = k) := by
  unfold KV at r
  induction r with
  | nil => rfl
  | cons h t ih => rw [List.any_cons, List.any_cons, ih, h.1]
theorem KV.repl {kvs : List (κ × V)} {vs : List (κ × Value)} (r : KV kvs vs) (k : κ) {y : V} {u : Value} (ry : RelV y u) :
    KV (kvs.map fun kv => if kv.1 = k then (kv.1, y) else kv) (vs.map fun kv => if kv.1 = k then (kv.1, u) else kv) := by
  unfold KV at r ⊢
  induction r with
  | nil => exact .nil
  | @cons p q ps qs h t ih =>
    rw [List.map_cons, List.map_cons]
    refine .cons ?_ ih
    obtain ⟨h1, h2⟩ := h
    by_cases e : p.1 = k
    · rw [if_pos e, if_pos (h1.symm.trans e)]; exact ⟨h1, ry⟩
    · rw [if_neg e, if_neg (fun z => e (h1.trans z))]; exact ⟨h1, h2⟩
theorem KV.put {kvs : List (κ × V)} {vs : List (κ × Value)} (r : KV kvs vs) (k : κ) {y : V} {u : Value} (ry : RelV y u) : KV (putK kvs k y) (stored vs k u) := by
  unfold putK stored
  rw [r.any k]
  by_cases e : (vs.any fun kv => decide (kv.1 = k)) = true
  · rw [if_pos e, if_pos e]; exact r.repl k ry
  · rw [if_neg e, if_neg e]; exact Paired.snoc r ⟨rfl, ry⟩
theorem KV.length {kvs : List (κ × V)} {vs : List (κ × Value)} (r : KV kvs vs) : kvs.length = vs.length := Paired.length r
end


/-! ### a tracked dict, its keys ints and texts or tuples of these -/
theorem kV_is {P : Program} {w : World} {k : Key} {u : Value} (r : RelV (kV k) u) : (mixKind P w).is k u = true := by
  cases k with
  | inl i => obtain ⟨t, e⟩ := (show ∃ t, u = Value.int i t from r); subst e; exact mixKind_int P w i t
  | inr x => obtain ⟨t, e⟩ := (show ∃ t, u = Value.str x t from r); subst e; exact mixKind_str P w x t
theorem items_are {P : Program} {w : World} : ∀ {ks : List Key} {us : List Value}, Vals (ks.map kV) us → ItemsAre (mixKind P w) ks us
  | [], _, r => by rw [List.map_nil] at r; cases r; exact .nil
  | k :: ks, _, r => by
    rw [List.map_cons] at r
    cases r with
    | cons h t => exact .cons (kV_is h) (items_are t)

/-- raw entries of a dict with tuple keys -/
abbrev KT (H : Hp) : List (List Key × V) → List (List Key × Addr × Value) → Prop := Paired fun p q => p.1 = q.1 ∧ H q.2.1 = some (.tup (p.1.map kV)) ∧ RelV p.2 q.2.2
theorem KT.val {H : Hp} {kvs : List (List Key × V)} {xs : List (List Key × Addr × Value)} (r : KT H kvs xs) (k : List Key) : RelO (valV kvs k) ((atKey xs k).map (·.2)) := by
  induction r with
  | nil => exact True.intro
  | @cons p q ps qs h t ih =>
    obtain ⟨h1, _, h2⟩ := h
    by_cases e : p.1 = k
    · have e' : q.1 = k := h1.symm.trans e
      have b : atKey (q :: qs) k = some q.2 := by simp [atKey, List.find?_cons, e']
      rw [valV_pos e, b]; exact h2
    · have e' : ¬ q.1 = k := fun z => e (h1.trans z)
      have b : atKey (q :: qs) k = atKey qs k := by simp [atKey, List.find?_cons, e']
      rw [valV_neg e, b]; exact ih
theorem KT.repl {H : Hp} {kvs : List (List Key × V)} {xs : List (List Key × Addr × Value)} (r : KT H kvs xs) (k : List Key) {y : V} {u : Value} (ry : RelV y u) :
    KT H (kvs.map fun kv => if kv.1 = k then (kv.1, y) else kv) (xs.map (putAt k u)) := by
  induction r with
  | nil => exact .nil
  | @cons p q ps qs h t ih =>
    rw [List.map_cons, List.map_cons]
    refine .cons ?_ ih
    obtain ⟨h1, h2, h3⟩ := h
    unfold putAt
    by_cases e : p.1 = k
    · rw [if_pos e, if_pos (h1.symm.trans e)]; exact ⟨h1, h2, ry⟩
    · rw [if_neg e, if_neg (fun z => e (h1.trans z))]; exact ⟨h1, h2, h3⟩
theorem KT.put {H : Hp} {kvs : List (List Key × V)} {xs : List (List Key × Addr × Value)} (r : KT H kvs xs) (k : List Key) {b : Addr} {y : V} {u : Value} (hb : H b = some (.tup (k.map kV))) (ry : RelV y u) :
    KT H (putK kvs k y) (storedH xs k b u) := by
  have e : (kvs.any fun kv => decide (kv.1 = k)) = (atKey xs k).isSome := by
    rw [valV_any, (r.val k).isSome_eq, Option.isSome_map]
  unfold putK storedH
  rw [e]
  by_cases q : (atKey xs k).isSome = true
  · rw [if_pos q, if_pos q]; exact r.repl k ry
  · rw [if_neg q, if_neg q]; exact Paired.snoc r ⟨rfl, hb, ry⟩
theorem KT.keeps {H H' : Hp} {kvs : List (List Key × V)} {xs : List (List Key × Addr × Value)} (r : KT H kvs xs) (ht : ∀ b ys, H b = some (.tup ys) → H' b = some (.tup ys)) : KT H' kvs xs :=
  Paired.mapP r fun _ _ z => ⟨z.1, ht _ _ z.2.1, z.2.2⟩

section
variable {P : Program} {w : World} {H : Hp} {h : Heap} {a : Addr}
theorem rd_of {u : HO} (ok : HOk P w H h) (e : Rd H a u) : ObjOk P w H h a u := e.ok ok
theorem dk_rd {kvs : List (Key × V)} (ok : HOk P w H h) (e : Rd H a (.dK kvs)) : kvs.length ≤ sizeLine ∧ (a == sysModules) = false ∧ ∃ vs, KV kvs vs ∧ h.DictOf (mixKind P w) a vs :=
  show ObjOk P w H h a (.dK kvs) from rd_of ok e
theorem dk_of {kvs : List (Key × V)} (ok : HOk P w H h) (e : H a = some (.dK kvs)) : kvs.length ≤ sizeLine ∧ (a == sysModules) = false ∧ ∃ vs, KV kvs vs ∧ h.DictOf (mixKind P w) a vs := dk_rd ok (.inl e)
/-- a tracked tuple of ints and texts is a key -/
theorem key_of {ks : List Key} (ok : HOk P w H h) (e : H a = some (.tup (ks.map kV))) : (tupleKind (mixKind P w)).is h ks a := by
  obtain ⟨_, its, r, o, h1, h2, n, h3⟩ := (show ObjOk P w H h a (.tup (ks.map kV)) from ok a _ e)
  exact ⟨o, its.toArray, n, h1, h2, h3, by simpa using items_are r⟩
theorem dt_rd {kvs : List (List Key × V)} (ok : HOk P w H h) (e : Rd H a (.dT kvs)) : kvs.length ≤ sizeLine ∧ (a == sysModules) = false ∧
    ∃ xs, KT H kvs xs ∧ h.DictOfH (tupleKind (mixKind P w)) a xs := by
  obtain ⟨z, y, xs, r, o, es, ep, h1, h2, h3, h4, h5⟩ := (show ObjOk P w H h a (.dT kvs) from rd_of ok e)
  refine ⟨z, y, xs, r, o, es, ep, h1, h2, h3, h4, fun x hx => ?_, h5⟩
  have all : ∀ {l : List (List Key × V)} {m : List (List Key × Addr × Value)}, KT H l m → ∀ x ∈ m, (tupleKind (mixKind P w)).is h x.1 x.2.1 := by
    intro l m q
    induction q with
    | nil => intro x hx; exact nomatch hx
    | @cons p q ps qs hq t ih =>
      intro x hx
      rcases List.mem_cons.mp hx with e | hx
      · subst e
        exact key_of ok (by rw [← hq.1]; exact hq.2.1)
      · exact ih x hx
  exact all r x hx
theorem dt_of {kvs : List (List Key × V)} (ok : HOk P w H h) (e : H a = some (.dT kvs)) : kvs.length ≤ sizeLine ∧ (a == sysModules) = false ∧
    ∃ xs, KT H kvs xs ∧ h.DictOfH (tupleKind (mixKind P w)) a xs := dt_rd ok (.inl e)
end

/-- what the dict at a holds at the key y -/
def DGet (H : Hp) (a : Addr) (y : V) (r : Option V) : Prop :=
  (∃ kvs k, Rd H a (.dK kvs) ∧ y = kV k ∧ r = valV kvs k) ∨ ∃ kvs k b, Rd H a (.dT kvs) ∧ y = .ref b ∧ H b = some (.tup (k.map kV)) ∧ r = valV kvs k
/-- the heap behind a[y] = v -/
def DPut (H : Hp) (a : Addr) (y v : V) (H' : Hp) : Prop :=
  (∃ kvs k, H a = some (.dK kvs) ∧ y = kV k ∧ kvs.length < sizeLine ∧ H' = upd H a (.dK (putK kvs k v))) ∨
  ∃ kvs k b, H a = some (.dT kvs) ∧ y = .ref b ∧ H b = some (.tup (k.map kV)) ∧ kvs.length < sizeLine ∧ H' = upd H a (.dT (putK kvs k v))
theorem DGet.t {H : Hp} {a b : Addr} {kvs : List (List Key × V)} {k : List Key} (e : H a = some (.dT kvs)) (eb : H b = some (.tup (k.map kV))) : DGet H a (.ref b) (valV kvs k) := .inr ⟨kvs, k, b, .inl e, rfl, eb, rfl⟩
theorem DPut.t {H : Hp} {a b : Addr} {kvs : List (List Key × V)} {k : List Key} {v : V} (e : H a = some (.dT kvs)) (eb : H b = some (.tup (k.map kV))) (hl : kvs.length < sizeLine) :
    DPut H a (.ref b) v (upd H a (.dT (putK kvs k v))) := .inr ⟨kvs, k, b, e, rfl, eb, hl, rfl⟩


section
variable {X : Cx} {pins : List (Addr × Obj)} {σ : St} {H : Hp} {s : Shared} {a : Addr} {y v : V} {u r : Value} {o : Option V} {A : Around} {E : Value → Shared → Prop}

theorem Inv.big (I : Inv X pins σ H s) : sysModules < s.heap.objs.size := by
  have h : mainGlobals < s.heap.objs.size := (I.mod.glob.keeps I.bk).lt
  exact Nat.lt_trans (by decide) h

theorem d_notIn {Q : Value → Shared → Prop} (hu : A.units + 1 < cLine) (I : Inv X pins σ H s) (g : DGet H a y o) (ry : RelV y u) (h : ∀ s', Inv X pins σ H s' → Q (.bool (!o.isSome)) s') :
    wpAny (model X.prog X.w) A (compareOp .NotIn u (.ref a)) Q E s := by
  rcases g with ⟨kvs, k, e, ey, l⟩ | ⟨kvs, k, b, e, ey, eb, l⟩
  · subst ey
    obtain ⟨z, hd, vs, rel, dd⟩ := dk_rd I.hok e
    refine wpAny_notIn_of (kV_is ry) hd dd.mapOf ?_
    rw [← (rel.val k).isSome_eq, ← l]
    exact h _ (I.tok _)
  · subst ey
    cases (show u = Value.ref b from ry)
    obtain ⟨z, hd, xs, rel, dd⟩ := dt_rd I.hok e
    refine wpAny_notIn_heap (tupleKind_room_in1 hu) (key_of I.hok eb) hd dd ?_
    have q := (rel.val k).isSome_eq
    rw [Option.isSome_map] at q
    rw [← q, ← l]
    exact h _ (I.tok _)
/-- a dict's object is replaced -/
theorem d_write {h' : Heap} {t' : Nat} {ob : HO} (I : Inv X pins σ H s) (mu : Mut (H a)) (hs : Heap.SameBut a s.heap h') (he : ∃ q, h'.get? a = some q) (new : ObjOk X.prog X.w (upd H a ob) h' a ob) :
    Inv X pins σ (upd H a ob) { s with heap := h', toks := t' } :=
  I.write (x := a) (e := a) mu (.inl rfl) (fun b q hb z => (hs.2 b hb).trans z) he new
theorem dk_new {P : Program} {w : World} {H' : Hp} {h' : Heap} {kvs : List (Key × V)} {vs : List (Key × Value)} (z : kvs.length ≤ sizeLine) (hd : (a == sysModules) = false) (rel : KV kvs vs) (dd : h'.DictOf (mixKind P w) a vs) :
    ObjOk P w H' h' a (.dK kvs) := ⟨z, hd, vs, rel, dd⟩
/-- d[y] = v -/
theorem d_setItem {H' : Hp} {Q : Unit → Shared → Prop} (hu : A.units + 1 < cLine) (I : Inv X pins σ H s) (g : DPut H a y v H') (ry : RelV y u) (rv : RelV v r) (h : ∀ s', Inv X pins σ H' s' → Q () s') :
    wpAny (model X.prog X.w) A (setItem (.ref a) u r) Q E s := by
  rcases g with ⟨kvs, k, e, ey, l, eH⟩ | ⟨kvs, k, b, e, ey, eb, l, eH⟩
  · subst ey eH
    obtain ⟨z, hd, vs, rel, dd⟩ := dk_of I.hok e
    have hz : vs.length ≤ sizeLine := by rw [← rel.length]; exact z
    have hl : (putK kvs k v).length ≤ sizeLine := by have := length_putK kvs k v; omega
    refine wpAny_setItem_pairs (hsz := hz) (kV_is ry) dd fun h' dd' hs => h _ ?_
    have he : ∃ q, h'.get? a = some q := let ⟨q, _, _, hq, _⟩ := dd'; ⟨q, hq⟩
    exact d_write I (by rw [e]; exact True.intro) hs he (dk_new hl hd (rel.put k rv) dd')
  · subst ey eH
    cases (show u = Value.ref b from ry)
    obtain ⟨z, hd, xs, rel, dd⟩ := dt_of I.hok e
    have hz : xs.length ≤ sizeLine := by rw [← Paired.length rel]; exact z
    have hl : (putK kvs k v).length ≤ sizeLine := by have := length_putK kvs k v; omega
    refine wpAny_setItem_heap (hsz := hz) (tupleKind_room_in1 hu) (key_of I.hok eb) dd fun h' dd' hs => h _ ?_
    obtain ⟨q, es, ep, hq, h2, h3, h4, _, h5⟩ := dd'
    refine d_write I (by rw [e]; exact True.intro) hs ⟨q, hq⟩ ⟨hl, hd, _, (rel.put k eb rv).keeps fun c ys ec => ?_, q, es, ep, hq, h2, h3, h4, h5⟩
    rw [upd_ne (ne_of ec e (fun z => nomatch z))]
    exact ec
end

section
variable {X : Cx} {pins : List (Addr × Obj)} {σ : St} {H : Hp} {s : Shared} {a : Addr} {kvs : List (Key × V)} {k : Key} {u : Value} {A : Around} {E : Value → Shared → Prop}
end


/-! ### readings and rules -/
/-- the element of a subscription, not a slice -/
def NoSl (i : Expr) : Prop := ∀ ov iv, subscripted i false ov iv = operate [ov, iv] (getItem ov iv)
/-- d[y] -/
def tDGet (td ty : TE) : TE := fun σ H Q => td σ H fun x H1 => ty σ H1 fun y H2 => ∃ a v, x = .ref a ∧ DGet H2 a y (some v) ∧ Q v H2
/-- y in d, y not in d -/
def tDIn (ty td : TE) : TE := fun σ H Q => ty σ H fun y H1 => td σ H1 fun x H2 => ∃ a o, x = .ref a ∧ DGet H2 a y o ∧ Q (.bl o.isSome) H2
def tDNotIn (ty td : TE) : TE := fun σ H Q => ty σ H fun y H1 => td σ H1 fun x H2 => ∃ a o, x = .ref a ∧ DGet H2 a y o ∧ Q (.bl (!o.isSome)) H2
/-- d[y] = v -/
def sDPut (td ty tv : TE) : TS := fun D σ H => tv σ H fun v H1 => td σ H1 fun x H2 => ty σ H2 fun y H3 => ∃ a H4, x = .ref a ∧ DPut H3 a y v H4 ∧ D.nx σ H4
/-- d[y] op= v -/
def sDAug (td ty tv : TE) (rd : V → V → Hp → VK → Prop) : TS := fun D σ H => td σ H fun x H1 => ty σ H1 fun y H2 => ∃ a v, x = .ref a ∧ DGet H2 a y (some v) ∧
  tv σ H2 fun y2 H3 => rd v y2 H3 fun z H4 => ∃ H5, DPut H4 a y z H5 ∧ D.nx σ H5
/-- del d[y] -/
def sDDel (td ty : TE) : TS := fun D σ H => td σ H fun x H1 => ty σ H1 fun y H2 => ∃ a kvs k, x = .ref a ∧ H2 a = some (.dK kvs) ∧ y = kV k ∧ (valV kvs k).isSome = true ∧ D.nx σ (upd H2 a (.dK (dropK kvs k)))

section
variable {X : Cx} {o i e value : Expr} {pos pos' tpos : Pos} {td ty tv : TE}
theorem pc_dnotin (hu : X.A.units + 1 < cLine) (hi : PE X i ty) (ho : PE X o td) : PC X .NotIn i o (tDNotIn ty td) := by
  intro pins s σ H Q I h
  refine thn (hi pins s σ H _ I h) fun iv s1 ⟨y, H1, I1, ry, q1⟩ => thn (ho pins s1 σ H1 _ I1 q1) fun u s2 ⟨x, H2, I2, rx, a, ov, ex, g, q2⟩ => ?_
  subst ex
  obtain rfl : u = Value.ref a := rx
  exact d_notIn hu I2 g ry fun s3 I3 => ⟨.bl (!ov.isSome), H2, I3, rfl, q2⟩
theorem ps_dput (hu : X.A.units + 1 < cLine) (ho : PE X o td) (hi : PE X i ty) (hv : PE X value tv) (hs : swapsWith value (some (.Subscript o i pos')) pos.line X.env = pure false) :
    PS X (.Assign [.Subscript o i pos'] value pos) (sDPut td ty tv) := by
  intro pins s σ H D I h
  refine wpAny_Assign_Subscript (thn (hv pins s σ H _ I h) fun r s1 ⟨v, H1, I1, rv, q1⟩ => thn (ho pins s1 σ H1 _ I1 q1) fun u s2 ⟨x, H2, I2, rx, q2⟩ => thn (hi pins s2 σ H2 _ I2 q2) fun iv s3 ⟨y, H3, I3, ry, a, H4, ex, g, q3⟩ => ?_) hs
  subst ex
  obtain rfl : u = Value.ref a := rx
  exact d_setItem hu I3 g ry rv fun s4 I4 => ⟨σ, H4, I4, q3⟩
end


/-! ### displays -/
theorem dt_empty {P : Program} {w : World} {H : Hp} (h : Heap) (hb : sysModules < h.objs.size) : ObjOk P w H (h.push { cls := .type "dict", data := .dict #[] }) h.objs.size (.dT []) :=
  ⟨Nat.zero_le _, beq_eq_false_iff_ne.mpr (Ne.symm (Nat.ne_of_lt hb)), [], .nil, _, #[], 0, Heap.get?_push_size _ rfl, ⟨rfl, rfl, rfl⟩, rfl, rfl, List.nodup_nil⟩
/-- {}, to be a dict of the kind that is wanted -/
def tDNewK : TE := fun _ H Q => ∀ p, H p = none → Q (.ref p) (upd H p (.dK []))
def tDNewT : TE := fun _ H Q => ∀ p, H p = none → Q (.ref p) (upd H p (.dT []))
section
variable {X : Cx} {pos : Pos}
end

/-- the pairs of a display, from the left -/
def tPairs : List (TE × TE) → St → Hp → (List (V × V) → Hp → Prop) → Prop
  | [], _, H, Q => Q [] H
  | (tk, tv) :: r, σ, H, Q => tk σ H fun x H1 => tv σ H1 fun y H2 => tPairs r σ H2 fun ps H3 => Q ((x, y) :: ps) H3
abbrev VV : List (V × V) → List (Value × Value) → Prop := Paired fun p q => RelV p.1 q.1 ∧ RelV p.2 q.2
def PPs (X : Cx) (pos : Pos) (keys : List (Option Expr)) (values : List Expr) (trs : List (TE × TE)) : Prop :=
  ∀ (pins : List (Addr × Obj)) (s : Shared) (σ : St) (H : Hp) (Q : List (V × V) → Hp → Prop), Inv X pins σ H s → tPairs trs σ H Q →
    wpAny (model X.prog X.w) X.A (evalPairs (pairTrees keys values X.env pos)) (fun vs s' => ∃ ps H', Inv X pins σ H' s' ∧ VV ps vs ∧ Q ps H') X.xe s
def mergeK (kvs more : List (Key × V)) : List (Key × V) := more.foldl (fun acc kv => putK acc kv.1 kv.2) kvs
/-- {k: v, ..} with keys ints and texts; the new dict stands empty while the pairs are made -/
def tDisp (trs : List (TE × TE)) : TE := fun σ H Q => ∀ p, H p = none → tPairs trs σ (upd H p (.dK [])) fun ps H2 => H2 p = some (.dK []) ∧ ∃ kvs : List (Key × V), ps = kvs.map (fun kv => (kV kv.1, kv.2)) ∧ kvs.length ≤ 15 ∧ Q (.ref p) (upd H2 p (.dK (mergeK [] kvs)))
/-! ### methods -/
/-- a method call o.m(e) of a built-in, with one argument: what must be seen of the text -/
structure M1 (X : Cx) (o : Expr) (m : Str) (apos : Pos) (e : Expr) (cpos : Pos) : Prop where
  base : attributeBase o m X.env (eval o X.env) = eval o X.env
  few : ((backTo cpos (starEach [e] X.env)).all (fun x => !x.1) && (backToKw cpos (keywordEach [] X.env)).all (fun x => x.1.isSome)
    && decide (([e] : List Expr).length + ([] : List Keyword).length + (if ([] : List Keyword).isEmpty then 0 else 1) < 30)) = true
  line : (apos.endLine == cpos.line) = true
  trees : backTo cpos (starEach [e] X.env) = [(false, eval e X.env)]
structure M2 (X : Cx) (o : Expr) (m : Str) (apos : Pos) (e f : Expr) (cpos : Pos) : Prop where
  base : attributeBase o m X.env (eval o X.env) = eval o X.env
  few : ((backTo cpos (starEach [e, f] X.env)).all (fun x => !x.1) && (backToKw cpos (keywordEach [] X.env)).all (fun x => x.1.isSome)
    && decide (([e, f] : List Expr).length + ([] : List Keyword).length + (if ([] : List Keyword).isEmpty then 0 else 1) < 30)) = true
  line : (apos.endLine == cpos.line) = true
  trees : backTo cpos (starEach [e, f] X.env) = [(false, eval e X.env), (false, eval f X.env)]

/-- a is a dict, whatever its keys -/
def IsD (H : Hp) (a : Addr) : Prop := (∃ kvs, Rd H a (.dK kvs)) ∨ ∃ kvs, Rd H a (.dT kvs)
section
variable {X : Cx} {pins : List (Addr × Obj)} {σ : St} {H : Hp} {s : Shared} {a : Addr} {y d : V} {u r : Value} {o : Option V} {A : Around} {E : Value → Shared → Prop}
end

def tDGet1 (td ty : TE) : TE := fun σ H Q => td σ H fun x H1 => ∃ a, x = .ref a ∧ IsD H1 a ∧ ty σ H1 fun y H2 => ∃ o, DGet H2 a y o ∧ Q (o.getD .non) H2
def tDGet2 (td ty tx : TE) : TE := fun σ H Q => td σ H fun x H1 => ∃ a, x = .ref a ∧ IsD H1 a ∧ ty σ H1 fun y H2 => tx σ H2 fun z H3 => ∃ o, DGet H3 a y o ∧ Q (o.getD z) H3
/-- d.pop(k): there; d.pop(k, x): there or not -/
def tDPop1 (td ty : TE) : TE := fun σ H Q => td σ H fun x H1 => ∃ a, x = .ref a ∧ IsD H1 a ∧ ty σ H1 fun y H2 => ∃ kvs k v, H2 a = some (.dK kvs) ∧ y = kV k ∧ valV kvs k = some v ∧ Q v (upd H2 a (.dK (dropK kvs k)))
def tDPop2 (td ty tx : TE) : TE := fun σ H Q => td σ H fun x H1 => ∃ a, x = .ref a ∧ IsD H1 a ∧ ty σ H1 fun y H2 => tx σ H2 fun z H3 => ∃ kvs k, H3 a = some (.dK kvs) ∧ y = kV k ∧
  (∀ v, valV kvs k = some v → Q v (upd H3 a (.dK (dropK kvs k)))) ∧ (valV kvs k = none → Q z H3)
section
variable {X : Cx} {o e f : Expr} {apos cpos : Pos} {td ty tx : TE}
end

/-! ### dict(d): a copy -/
section
variable {X : Cx} {pins : List (Addr × Obj)} {σ : St} {H : Hp} {s : Shared} {a : Addr} {kvs : List (Key × V)} {A : Around} {E : Value → Shared → Prop}
end


section
variable {X : Cx} {pins : List (Addr × Obj)} {σ : St} {H : Hp} {s : Shared} {a : Addr} {y : V} {u : Value} {A : Around} {E : Value → Shared → Prop}
end
end L2


namespace Att
open PySem PySem.W PySem.Calls PyProof.Rows

/-! ### the script -/
theorem ints_of_wellAll {P : Params} {h : Heap} : ∀ (ns : List Int) (vs : List Value), WellAll P h vs (ns.map WData.int) → IntsAre vs ns := by
  intro ns
  induction ns with
  | nil =>
    intro vs w
    rw [List.map_nil] at w
    cases w
    exact .nil
  | cons n ns ih =>
    intro vs w
    rw [List.map_cons] at w
    cases w with
    | cons a b =>
      cases a
      exact .cons _ _ (ih _ b)

theorem script_of {l : OpenLaw} {n : Nat} (hn : l.most = some n) {P : Params} {h : Heap} {args : List WData} {vals : List Value}
    (hpre : l.row.toRowW.claim.pre args = true) (hwl : WellAll P h vals args) :
    ∃ a vs ns, vals = [Value.ref a] ∧ args = [WData.list (ns.map WData.int)] ∧ h.get? a = some { cls := .type "list", data := .seq vs.toArray } ∧ IntsAre vs ns ∧ ns.length ≤ n := by
  have hsh : WShape.hasAll [] args [.list .int] = true := (pre_splitW hpre).1
  have hc : l.pre.holds [] { args := args } = true := (pre_splitW hpre).2
  obtain ⟨d, r, rfl, h1, h2⟩ := hasAllW_cons hsh
  obtain rfl := hasAllW_nil h2
  obtain ⟨xs, rfl, h3⟩ := hasW_list h1
  obtain ⟨ns, rfl⟩ := items_int h3
  have hlen : ns.length ≤ n := by
    unfold OpenLaw.pre at hc
    have h4 : (WTm.not (.lt (.lit (.int (n : Int))) (.len (.arg 0)))).holds [] { args := [.list (ns.map .int)] } = true := by
      have h4 := (holds_andW hc).1
      rw [hn] at h4
      exact h4
    have h5 := condW_of h4 (w_not (w_lt w_lit (w_len_list (w_arg rfl))))
    rw [List.length_map] at h5
    refine Nat.le_of_not_lt fun q => ?_
    have q' : (n : Int) < ((ns.length : Nat) : Int) := by omega
    first
      | (rw [decide_eq_true q'] at h5; exact absurd h5 (by decide))
      | (simp at h5; omega)
  cases hwl with
  | cons w1 w2 =>
    cases w2
    cases w1 with
    | list ho hall => exact ⟨_, _, ns, rfl, rfl, ho, ints_of_wellAll ns _ hall, hlen⟩

theorem post_true (l : OpenLaw) (args : List WData) : l.row.toRowW.claim.post args (.bool true) args = true :=
  postW_of (r := l.row.toRowW) (X := (true == true))
    (show WShape.has [] (.bool true) .bool = true by first | rfl | decide | simp [WShape.has, WShape.arms, WShape.armsAll])
    (show (WTm.eq .res (.lit (.bool true))).value [] { args := args, res := some (.bool true), after := args } = some (.bool (true == true)) from w_eq_bool (w_res rfl) w_lit) rfl

/-! ### the attachment: holds_open's last premise (the goal 'hc' behind k_head) from a wpAny of the law's body -/
/-- the same from a codeAny of the CALL (for a layer whose function contracts speak of calls) -/
theorem attach_call {l : OpenLaw} {n : Nat} {q : Program} {loose : List Str} {XP : (Str → Option Value) → Heap → Prop} {YP : World → Heap → Prop} {d : DefRec}
    (hn : l.most = some n) (hdf : d.params.defaults = [])
    (call : ∀ (w : World) (s₀ s₁ : Shared) (mg mb : Str → Option Value) (fa : Addr) (o : Obj) (pm cd doc : Value) (a : Addr) (vs : List Value) (ns : List Int),
      Ground q loose [] XP w s₀ mg mb s₁.heap → YP w s₁.heap →
      s₁.heap.get? fa = some o → o.data = .func (docDef d.name d.params d.body d.scope pm cd doc) → s₁.heap.CodeRec cd d.name → mg d.name = some (.ref fa) →
      s₁.heap.get? a = some { cls := .type "list", data := .seq vs.toArray } → IntsAre vs ns → ns.length ≤ n → s₁.gens = #[] →
      codeAny (model l.prog w) callerA (.call (.ref fa) ⟨[.ref a], []⟩) (fun r s' => r = .ok (.ret (.bool true)) ∧ OldK s₁.heap s'.heap ∧ s'.os = s₁.os ∧ AllBare s'.gens) s₁) :
    WalkO q loose XP YP l.row.toRowW d [] (fun f vs => PySem.call f vs) := by
  intro w s₀ s₁ mg mb G Y fa o pm cd doc dV kV ho hd hcd hD hmg hg args vals as hpre hlay hrd hwl hlo
  obtain rfl : dV = .none := Dflts.none hD hdf
  obtain rfl : kV = .none := Dflts.noKw hD
  obtain ⟨a, vs, ns, rfl, rfl, hobj, hints, hlen⟩ := script_of hn hpre hwl
  refine enter_call (codeAny_mono (call w s₀ s₁ mg mb fa o pm cd doc a vs ns G Y ho (fd_plain hd) hcd hmg hobj hints hlen hg) fun r s' hq => ?_)
  obtain ⟨rfl, h2, h3, h4⟩ := hq
  exact ⟨.inl ⟨.bool true, .bool true, [], rfl, fun _ => rfl, .bool true, post_true l _, fun _ => ⟨List.Pairwise.nil, fun _ hm => (nomatch hm)⟩⟩, h2, h3, h4⟩

/-! ### rules over ANY heap (no ledger) from facts about the written part K: the library's own take a ledger (News) for what they write -/
section
variable {prog : Program} {w : World} {A : Around} {E : Value → Shared → Prop} {s : Shared} {K : Frag}

/-! the whole heap as the ledger: makes every rule that writes through a ledger a rule over any heap -/
def noObjs (h : Heap) : Heap := { h with objs := #[] }
def ledger (h : Heap) (L d : Addr) : List (Addr × Obj) := (List.range h.objs.size).filterMap fun a => if a = L ∨ a = d then none else (h.get? a).map fun o => (a, o)
end
end Att

namespace L2
open PySem PySem.Spec PyProof.Rows

theorem vals_ints : ∀ {vs : List Value} {ns : List Int}, IntsAre vs ns → Vals (ns.map V.int) vs
  | _, _, .nil => .nil
  | _, _, .cons n t h => .cons ⟨t, rfl⟩ (vals_ints h)

/-- nothing is tracked but the script, known to the object (or it is an object of the module) -/
def Only (H : Hp) : Prop := ∀ b, H b = none ∨ ∃ o xs, H b = some (.frz o (.lst xs))

/-- THE HEAD: the law's promise, at the heap behind the top. F, the promise of the law's def, may use that base is part of the heap (so K.In base, base.Ns mainGlobals mg stand in Mod) -/
theorem law_call {P : Program} {w : World} {K : PySem.W.Frag} {mg mb : Str → Option Value} {CX : CXT} {k : Nat} {fa a : Addr} {fd : FuncData} {x : Str} {sp : Sp} {s₁ : Shared} {vs : List Value} {ns : List Int}
    (KX : K.In s₁.heap) (hns : s₁.heap.Ns mainGlobals mg) (hb : s₁.heap.Ns builtinsNs mb) (hbb : ∀ x : Str, x ≠ "__name__" → mb x = bootBuiltins x) (hlim : s₁.heap.NoLimit) (hg : s₁.gens = #[])
    (ha : s₁.heap.get? a = some { cls := .type "list", data := .seq vs.toArray }) (hi : IntsAre vs ns) (hl : ns.length ≤ sizeLine) (hr : Room k callerA)
    (F : ∀ base : Heap, K.In base → base.Ns mainGlobals mg → FnOk P w K mg base CX k fa fd [x] sp) (hbind : ∀ (s : Shared) (u : Value), BindsTo s fd ⟨[u], []⟩ [(x, u)])
    (hsp : ∀ H : Hp, Only H → SqL K H a (ns.map V.int) → sp [.ref a] H (fun v _ => v = .bl true) fun _ _ _ => False)
    (hCX : ∀ H e s', CX [] H s₁ (fun _ _ _ => False) e s' → False) :
    codeAny (model P w) callerA (.call (.ref fa) ⟨[.ref a], []⟩) (fun r s' => r = .ok (.ret (.bool true)) ∧ OldK s₁.heap s'.heap ∧ s'.os = s₁.os ∧ AllBare s'.gens) s₁ := by
  have rv := vals_ints hi
  have lenV := hi.length
  -- from an abstract heap in which nothing but the script may be tracked
  have core : ∀ H : Hp, Only H → SqL K H a (ns.map V.int) → HOk P w H s₁.heap → (∀ b, H b ≠ none → b = a) → (H a ≠ none → K.lookup a = none) →
      codeAny (model P w) callerA (.call (.ref fa) ⟨[.ref a], []⟩) (fun r s' => r = .ok (.ret (.bool true)) ∧ OldK s₁.heap s'.heap ∧ s'.os = s₁.os ∧ AllBare s'.gens) s₁ := by
    intro H hO hS hok hA hK
    have base_of : ∀ {b : Addr} {o : Obj}, s₁.heap.get? b = some o → H b = none → (hidT s₁.heap H).get? b = some o := fun e n => hidT_get e n
    have noA : ∀ {b : Addr} {o : Obj} {es : Array DictEntry} {ep : Nat}, s₁.heap.get? b = some o → o.data = .dict es ep → H b = none := fun {b o es ep} e d => by
      cases q : H b with
      | none => rfl
      | some u =>
        have e' : b = a := hA b (by rw [q]; simp)
        subst e'
        rw [ha] at e; cases e
        have d' : Data.seq vs.toArray _ = Data.dict es ep := d
        cases d'
    have nsK : ∀ {b : Addr} {m : Str → Option Value}, s₁.heap.Ns b m → (hidT s₁.heap H).Ns b m := fun {b m} ⟨o, es, ep, e, d, r⟩ => ⟨o, es, ep, base_of e (noA e d), d, r⟩
    have hKb : K.In (hidT s₁.heap H) := fun b o e => base_of (KX b o e) (by
      cases q : H b with
      | none => rfl
      | some u =>
        have e' : b = a := hA b (by rw [q]; simp)
        subst e'
        rw [hK (by rw [q]; simp)] at e; cases e)
    have hM : Mod K mg (hidT s₁.heap H) := ⟨hKb, nsK hns, ⟨mb, nsK hb, hbb⟩, let ⟨mc, h1, h2⟩ := hlim; ⟨mc, nsK h1, h2⟩⟩
    have e0 : Env0 P w K mg (hidT s₁.heap H) callerA [] s₁ H := ⟨rfl, hM, fun b o e => of_hidT e, Nat.le_of_eq (hidT_size _ _), trivial, fun b hb => absurd (show b ∈ ([] : List Addr) from hb) (by simp), hok, .of_eq hg⟩
    refine codeAny_mono ((F _ hKb (nsK hns)).run callerA [] s₁ H ⟨[.ref a], []⟩ [.ref a] [.ref a] _ _ hr e0 (hbind s₁ (.ref a)) (.cons rfl .nil) (hsp H hO hS)) fun r s' h => ?_
    cases r with
    | error e => exact (hCX H e s' h).elim
    | ok fl =>
      cases fl with
      | next => exact False.elim h
      | brk => exact False.elim h
      | cont => exact False.elim h
      | ret u =>
        obtain ⟨v, H', os, bare, un, hok', r', q⟩ := h
        have q' : v = .bl true := q
        subst q'
        obtain rfl : u = Value.bool true := r'
        refine ⟨rfl, OldK.of_keep fun b o e => ?_, os, bare⟩
        cases q : H b with
        | none => exact un.keep b o e q (by intro z; exact absurd (show b ∈ ([] : List Addr) from z) (by simp)) (by simp)
        | some u =>
          rcases hO b with z | ⟨ob, xs, z⟩
          · rw [q] at z; cases z
          · have z2 := un.frzs b ob _ z
            obtain ⟨e1, _⟩ := hok b _ z
            obtain ⟨e2, _⟩ := hok' b _ z2
            rw [e] at e1; cases e1
            exact e2
  cases hk : K.lookup a with
  | some o =>
    -- the script is one of the module's own objects
    have e := KX a o hk
    rw [ha] at e
    cases e
    refine core (fun _ => none) (fun _ => .inl rfl) (.inr ⟨_, vs.toArray, _, hk, rfl, rfl, rfl, by rw [List.size_toArray, lenV]; exact hl, by simpa using rv⟩) (fun b u z => by have z' : (none : Option HO) = some u := z; cases z') (fun b z => absurd rfl z) fun z => absurd rfl z
  | none =>
    refine core (fun b => if b = a then some (.frz { cls := .type "list", data := .seq vs.toArray } (.lst (ns.map V.int))) else none) (fun b => ?_) (.inl (.inr ⟨{ cls := .type "list", data := .seq vs.toArray }, if_pos rfl⟩)) (fun b u z => ?_) (fun b z => ?_) fun _ => hk
    · by_cases hb : b = a
      · exact .inr ⟨_, _, if_pos hb⟩
      · exact .inl (if_neg hb)
    · by_cases hb : b = a
      · have z' := (if_pos hb).symm.trans z
        cases z'
        subst hb
        exact ⟨ha, by rw [List.length_map]; exact hl, vs, _, rv, ha⟩
      · have z' := (if_neg hb).symm.trans z
        cases z'
    · by_cases hb : b = a
      · exact hb
      · exact absurd (if_neg hb) z
end L2

namespace L2
open PySem PySem.Spec PyProof.Rows

abbrev KOf {K : PySem.W.Frag} {h : Heap} (_ : K.In h) : PySem.W.Frag := K

/-- the goal that k_head leaves (case hc), from the law's promise. F gives the function object fd (K's own) once, then the promise over every base -/
theorem walk_of {l : PySem.W.OpenLaw} {n k : Nat} {q : Program} {loose : List Str} {XP : (Str → Option Value) → Heap → Prop} {YP : World → Heap → Prop} {d : DefRec} {K : Params → PySem.W.Frag} {CX : World → CXT} {sp : World → Sp} {x : Str}
    (hn : l.most = some n) (hn2 : n ≤ sizeLine) (hdf : d.params.defaults = []) (hr : Room k callerA)
    (hY : ∀ (w : World) (h : Heap), YP w h → (K w.params).In h)
    (F : ∀ (w : World) (mg : Str → Option Value) (fa : Addr) (h : Heap), (K w.params).In h → h.Ns mainGlobals mg → mg d.name = some (.ref fa) →
      ∃ fd : FuncData, (∀ (s : Shared) (u : Value), BindsTo s fd ⟨[u], []⟩ [(x, u)]) ∧
        ∀ base : Heap, (K w.params).In base → base.Ns mainGlobals mg → FnOk l.prog w (K w.params) mg base (CX w) k fa fd [x] (sp w))
    (hsp : ∀ (w : World) (H : Hp) (a : Addr) (ns : List Int), ns.length ≤ n → Only H → SqL (K w.params) H a (ns.map V.int) → sp w [.ref a] H (fun v _ => v = .bl true) fun _ _ _ => False)
    (hCX : ∀ (w : World) (H : Hp) (s : Shared) (e : Value) (s' : Shared), CX w [] H s (fun _ _ _ => False) e s' → False) :
    PySem.W.WalkO q loose XP YP l.row.toRowW d [] (fun f vs => PySem.call f vs) := by
  refine Att.attach_call hn hdf fun w s₀ s₁ mg mb fa o pm cd doc a vs ns G Y ho hd hcd hmg hobj hints hlen hg => ?_
  have KX := hY w _ Y
  obtain ⟨fd, hb, hF⟩ := F w mg fa _ KX G.T.g hmg
  exact law_call KX G.T.g G.T.b G.T.builtins G.T.nolimit hg hobj hints (Nat.le_trans hlen hn2) hr hF hb (fun H hO hS => hsp w H a ns hlen hO hS) fun H e s' => hCX w H s₁ e s'
/-- the same where the promise hangs on the written part alone: (sp := My.sp_law), no hole under a binder -/
theorem walk_ofK {l : PySem.W.OpenLaw} {n k : Nat} {q : Program} {loose : List Str} {XP : (Str → Option Value) → Heap → Prop} {YP : World → Heap → Prop} {d : DefRec} {K : Params → PySem.W.Frag} {CX : CXT} {sp : PySem.W.Frag → Sp} {x : Str}
    (hn : l.most = some n) (hn2 : n ≤ sizeLine) (hdf : d.params.defaults = []) (hr : Room k callerA)
    (hY : ∀ (w : World) (h : Heap), YP w h → (K w.params).In h)
    (F : ∀ (w : World) (mg : Str → Option Value) (fa : Addr) (h : Heap), (K w.params).In h → h.Ns mainGlobals mg → mg d.name = some (.ref fa) →
      ∃ fd : FuncData, (∀ (s : Shared) (u : Value), BindsTo s fd ⟨[u], []⟩ [(x, u)]) ∧
        ∀ base : Heap, (K w.params).In base → base.Ns mainGlobals mg → FnOk l.prog w (K w.params) mg base CX k fa fd [x] (sp (K w.params)))
    (hsp : ∀ (K : PySem.W.Frag) (H : Hp) (a : Addr) (ns : List Int), ns.length ≤ n → Only H → SqL K H a (ns.map V.int) → sp K [.ref a] H (fun v _ => v = .bl true) fun _ _ _ => False)
    (hCX : ∀ (H : Hp) (s : Shared) (e : Value) (s' : Shared), CX [] H s (fun _ _ _ => False) e s' → False) :
    PySem.W.WalkO q loose XP YP l.row.toRowW d [] (fun f vs => PySem.call f vs) :=
  walk_of (K := K) (CX := fun _ => CX) (sp := fun w => sp (K w.params)) hn hn2 hdf hr hY F (fun w H a ns h1 h2 h3 => hsp (K w.params) H a ns h1 h2 h3) fun _ H s e s' => hCX H s e s'
end L2



/-! SHORT WORDS over the layer: a def of the text, its body, what a loop and a test want. -/
namespace L2
open PySem PySem.Spec PyProof.Rows

/-! ### the text by places -/
/-- the j-th statement of a class's body -/
def inClass (s : Stmt) (j : Nat) : Stmt := match s with
  | .ClassDef _ _ _ body _ _ _ _ _ _ _ => body.getD j (.Pass ⟨0, 0, 0, 0⟩)
  | _ => .Pass ⟨0, 0, 0, 0⟩
def defArgs (s : Stmt) : Arguments := match s with
  | .FunctionDef _ a _ _ _ _ _ _ _ _ => a
  | _ => { posonlyargs := [], args := [], vararg := none, kwonlyargs := [], kw_defaults := [], kwarg := none, defaults := [] }
def defBody (s : Stmt) : List Stmt := match s with
  | .FunctionDef _ _ b _ _ _ _ _ _ _ => b
  | _ => []
def defScope (s : Stmt) : Scope := match s with
  | .FunctionDef _ _ _ _ _ _ sc _ _ _ => sc
  | _ => { kind := .function, names := [], isGenerator := false, isCoroutine := false }

/-! ### no exception leaves a def -/
abbrev CX0 : CXT := fun _ _ _ _ _ _ => False
abbrev E0 : XK := fun _ _ _ => False
theorem pass0 {X : Cx} : Passes CX0 X E0 := fun _ _ _ _ _ _ _ h => h.elim

/-! ### a def (or method) of the text as it stands behind the top -/
structure Fun (K : PySem.W.Frag) (x qual : Str) (st : Stmt) (f : Addr) (fd : FuncData) : Prop where
  ex : ∃ (oc : Value) (od : Option Addr) (kV doc pm : Value) (an : Option Addr) (cdv ct : Value) (osl : Array (Option Value)),
    fd = PySem.W.fnOf x qual (defArgs st) (defBody st) (defScope st) .none kV doc pm an cdv ct ∧ K.lookup f = some ⟨oc, od, .func fd, osl⟩ ∧ PySem.W.codeIn K cdv qual = true
  kp : PySem.W.keepIn K (.ref f) = true
section
variable {P : Program} {w : World} {K : PySem.W.Frag} {mg : Str → Option Value} {base : Heap}
/-- THE RULE for a def: its body as a term of rules, and the reading of that term -/
theorem Fun.ok {x qual : Str} {st : Stmt} {f : Addr} {fd : FuncData} {N ps : List Str} {k : Nat} {sp : Sp} (F : Fun K x qual st f fd) (S : FnScope N ps (defScope st)) (len : ∀ vs H Q E, sp vs H Q E → vs.length = ps.length)
    (hbody : ∀ (cdv : Value) (A : Around) (outer : List Env) (s : Shared) (H : Hp) (vs : List V) (Q : VK) (E : XK), Room k (A.deeper (envOfC qual (defScope st) s.heap.objs.size f cdv)) → sp vs H Q E →
      ∃ t, PSs (cxOf CX0 P w K mg base N qual (defScope st) f cdv A outer s H E).nox (defBody st) t ∧ t { nx := fun _ H' => Q .non H', rt := Q } (start N vs) H) : FnOk P w K mg base CX0 (k + 1) f fd ps sp := by
  obtain ⟨oc, od, kV, doc, pm, an, cdv, ct, osl, rfl, lk, hcd⟩ := F.ex
  refine fn_of lk hcd S len fun A outer s H vs Q E hr hsp => ?_
  obtain ⟨t, h, q⟩ := hbody cdv A outer s H vs Q E hr hsp
  exact ⟨t, h.nox, q⟩
/-- how its arguments bind (no defaults): h is «fun _ _ _ _ _ _ us hl => match us, hl with | [_, _], _ => rfl», one _ a parameter -/
theorem Fun.binds {x qual : Str} {st : Stmt} {f : Addr} {fd : FuncData} {ps : List Str} (F : Fun K x qual st f fd)
    (h : ∀ (kV doc pm : Value) (an : Option Addr) (cdv ct : Value) (us : List Value), us.length = ps.length → bindArgs (PySem.W.fnOf x qual (defArgs st) (defBody st) (defScope st) .none kV doc pm an cdv ct) ⟨us, []⟩ = pure (ps.zip us)) : Binds K fd ps [] := by
  obtain ⟨oc, od, kV, doc, pm, an, cdv, ct, osl, rfl, lk, hcd⟩ := F.ex
  exact .all (h kV doc pm an cdv ct)
theorem fun_mk {x qual : Str} {st : Stmt} {f : Addr} {oc : Value} {od an : Option Addr} {osl : Array (Option Value)} {kV doc pm cdv ct : Value} (l : K.lookup f = some ⟨oc, od, .func (PySem.W.fnOf x qual (defArgs st) (defBody st) (defScope st) .none kV doc pm an cdv ct), osl⟩)
    (c : PySem.W.codeIn K cdv qual = true) (k : PySem.W.keepIn K (.ref f) = true) : Fun K x qual st f (PySem.W.fnOf x qual (defArgs st) (defBody st) (defScope st) .none kV doc pm an cdv ct) := ⟨⟨oc, od, kV, doc, pm, an, cdv, ct, osl, rfl, l, c⟩, k⟩
end
theorem small1000 {n : Nat} (h : n ≤ 1000) : n < sizeLine := Nat.lt_of_le_of_lt h (by decide)

/-! ### expressions in short: the name that stands in the i-th slot -/
section
variable {X : Cx}
theorem pv (i : Nat) {x : Str} {pos : Pos} (hN : X.N[i]? = some x := by rfl) (hv : Vis X.env.scope x := by first | exact Or.inl rfl | exact Or.inr (Or.inl rfl) | exact Or.inr (Or.inr rfl)) (hd : (x == ("__debug__" : Str)) = false := by decide)
    (hcd : (x == ("__classdict__" : Str)) = false := by decide) : PE X (.Name x pos) (tVar i) := pe_var hN hv hd hcd
end

/-! ### tests -/
/-! ### heaps -/
/-- all that was tracked is as it was -/
def Same (H H' : Hp) : Prop := ∀ b o, H b = some o → H' b = some o
theorem Same.refl (H : Hp) : Same H H := fun _ _ h => h
theorem Same.trans {H H1 H2 : Hp} (a : Same H H1) (b : Same H1 H2) : Same H H2 := fun c o h => b c o (a c o h)
theorem Same.free {H H' : Hp} (e : Same H H') {l : Addr} (h : H' l = Option.none) : H l = Option.none := by
  cases q : H l with
  | none => rfl
  | some o =>
    rw [e l o q] at h
    cases h
theorem Same.seq {K : PySem.W.Frag} {H H' : Hp} {a : Addr} {xs : List V} (e : Same H H') (h : SqL K H a xs) : SqL K H' a xs := by
  rcases h with (h | ⟨o, h⟩) | h
  · exact .inl (.inl (e _ _ h))
  · exact .inl (.inr ⟨o, e _ _ h⟩)
  · exact .inr h

section
variable {X : Cx}
end
/-! ### a dict's pairs: keys that differ -/
section
variable {κ : Type} [DecidableEq κ]
theorem nd_snoc : ∀ {l : List κ} {k : κ}, l.Nodup → ¬ k ∈ l → (l ++ [k]).Nodup
  | [], k, _, _ => by simp
  | a :: r, k, h, hk => by
    obtain ⟨h1, h2⟩ := List.nodup_cons.mp h
    show (a :: (r ++ [k])).Nodup
    refine List.nodup_cons.mpr ⟨fun m => ?_, nd_snoc h2 fun m => hk (List.mem_cons.mpr (Or.inr m))⟩
    rcases List.mem_append.mp m with q | q
    · exact h1 q
    · exact hk (List.mem_cons.mpr (Or.inl (List.mem_singleton.mp q).symm))
end
end L2


/-! ## My extension of the layer -/
namespace PySem
open Sem (wp)
theorem forIn_cl {env : Env} {f : Str × NameKind → List (Str × Addr) → Sem (ForInStep (List (Str × Addr)))}
    (h1 : ∀ x r, x.2 ≠ .free → f x r = pure (.yield r)) (h2 : ∀ x r c, x.2 = .free → env.cells.lookup x.1 = some c → f x r = pure (.yield ((x.1, c) :: r))) :
    ∀ (l : List (Str × NameKind)) (acc : List (Str × Addr)), (∀ x ∈ l, x.2 = .free → ∃ c, env.cells.lookup x.1 = some c) → (∀ x c, acc.lookup x = some c → env.cells.lookup x = some c) →
      ∃ cl, forIn l acc f = pure cl ∧ (∀ x c, cl.lookup x = some c → env.cells.lookup x = some c) ∧ (∀ x ∈ l, x.2 = .free → ∃ c, cl.lookup x.1 = some c) ∧ (∀ x c, acc.lookup x = some c → ∃ c', cl.lookup x = some c')
  | [], acc, _, ha => ⟨acc, rfl, ha, (fun _ h => nomatch h), (fun x c h => ⟨c, h⟩)⟩
  | x :: l, acc, h, ha => by
    by_cases hf : x.2 = .free
    · obtain ⟨c, hc⟩ := h x List.mem_cons_self hf
      have hself : ((x.1, c) :: acc).lookup x.1 = some c := by rw [List.lookup_cons]; simp
      have hne : ∀ y, y ≠ x.1 → ((x.1, c) :: acc).lookup y = acc.lookup y := fun y e => by
        have : (y == x.1) = false := beq_eq_false_iff_ne.mpr e
        rw [List.lookup_cons, this]
      have ha' : ∀ y d, ((x.1, c) :: acc).lookup y = some d → env.cells.lookup y = some d := fun y d hy => by
        by_cases e : y = x.1
        · subst e; rw [hself] at hy; cases hy; exact hc
        · rw [hne y e] at hy; exact ha y d hy
      obtain ⟨cl, e1, e2, e3, e4⟩ := forIn_cl h1 h2 l ((x.1, c) :: acc) (fun y hy => h y (List.mem_cons_of_mem _ hy)) ha'
      refine ⟨cl, ?_, e2, fun y hy hk => ?_, fun y d hy => ?_⟩
      · rw [List.forIn_cons, h2 x acc c hf hc, pure_bind]; exact e1
      · rcases List.mem_cons.mp hy with rfl | hy
        · exact e4 _ c hself
        · exact e3 y hy hk
      · by_cases e : y = x.1
        · subst e; exact e4 _ c hself
        · exact e4 y d (by rw [hne y e]; exact hy)
    · obtain ⟨cl, e1, e2, e3, e4⟩ := forIn_cl h1 h2 l acc (fun y hy => h y (List.mem_cons_of_mem _ hy)) ha
      refine ⟨cl, ?_, e2, fun y hy hk => ?_, e4⟩
      · rw [List.forIn_cons, h1 x acc hf, pure_bind]; exact e1
      · rcases List.mem_cons.mp hy with rfl | hy
        · exact (hf hk).elim
        · exact e3 y hy hk
theorem closure_ok {scope : Scope} {env : Env} (h : ∀ x ∈ scope.names, x.2 = .free → ∃ c, env.cells.lookup x.1 = some c) :
    ∃ cl, closureFor scope env = pure cl ∧ (∀ x c, cl.lookup x = some c → env.cells.lookup x = some c) ∧ ∀ x ∈ scope.names, x.2 = .free → ∃ c, cl.lookup x.1 = some c := by
  obtain ⟨cl, e1, e2, e3, _⟩ := forIn_cl (env := env) (f := fun x r => match x with | (name, kind) => if (kind == .free) = true then (do let c ← cellOf env name; pure (ForInStep.yield ((name, c) :: r))) else pure (ForInStep.yield r))
    (fun x r hx => by
      obtain ⟨n, k⟩ := x
      have : (k == NameKind.free) = false := by simpa using hx
      simp only [this, Bool.false_eq_true, if_false])
    (fun x r c hx hc => by
      obtain ⟨n, k⟩ := x
      have hx : k = .free := hx
      have hc : env.cells.lookup n = some c := hc
      subst hx
      simp only [cellOf, hc, beq_self_eq_true, if_true, pure_bind]) scope.names [] h (by simp)
  refine ⟨cl, ?_, e2, e3⟩
  unfold closureFor
  first
    | (rw [show _ = pure cl from e1]; rfl)
    | exact (congrArg (· >>= pure) e1).trans (pure_bind ..)

section
variable {prog : Program} {w : World} {A : Around} {R : Result → Shared → Prop} {s : Shared}
theorem codeAny_compLoop_gen {elt target iter : Expr} {scope : Scope} {pos : Pos} {it acc : Value} {env : Env} (I : Nat → Shared → Prop)
    (turn : ∀ n s, I n s → wpAny (model prog w) A (pyNext it) (fun r s₁ => match r with
      | none => R (.ok .next) s₁
      | some v => wpAny (model prog w) A (letOwnedTupleGo target it v) (fun _ s₂ => wpAny (model prog w) A (assign target env v) (fun _ s₃ => wpAny (model prog w) A (eval elt env) (fun x s₄ =>
          wpAny (model prog w) A (call (.builtin "list.append") [acc, x]) (fun _ s₅ => ∃ m, m < n ∧ I m s₅) (fun _ _ => False) s₄) (fun _ _ => False) s₃) (fun _ _ => False) s₂) (fun _ _ => False) s₁) (fun _ _ => False) s)
    (n : Nat) (h : I n s) : codeAny (model prog w) A (.compLoop (.ListComp elt [⟨target, iter, [], 0⟩] scope pos) 0 it acc env) R s := by
  refine codeAny_loop rfl I (fun n s hI => ?_) n h
  show wpAny _ _ ((compTurn (.ListComp elt [⟨target, iter, [], 0⟩] scope pos) 0 it acc env).onRaise (fun x => do noteFrame x env; theTreesLotGoes x)) _ _ s
  refine wpAny_noted ?_
  rw [compTurn_list1]
  refine wpAny_bind (wpAny_standAt (wpAny_bind (wpAny_mono (turn n s hI) (fun r s₁ h₁ => ?_) fun _ _ h' => h'.elim)))
  cases r with
  | none => exact wpAny_pure h₁
  | some v =>
    exact wpAny_bind (wpAny_mono h₁ (fun _ s₂ h₂ => wpAny_bind (wpAny_mono h₂ (fun _ s₃ h₃ => wpAny_bind (wpAny_bind (wpAny_mono h₃ (fun x s₄ h₄ => wpAny_bind (wpAny_mono h₄
      (fun _ s₅ h₅ => wpAny_pure (wpAny_pure ⟨rfl, h₅⟩)) fun _ _ h' => h'.elim)) fun _ _ h' => h'.elim))) fun _ _ h' => h'.elim)) fun _ _ h' => h'.elim)
end
end PySem

namespace L2
open PySem PySem.Spec PyProof.Rows

section
variable {X : Cx} {pins : List (Addr × Obj)} {σ : St} {H : Hp} {s : Shared} {h' : Heap}
/-- the records at ch turn, a new object is laid and tracked -/
theorem Inv.turnL {t' : Nat} {ch : List Addr} {t : Addr} {o : HO} (I : Inv X pins σ H s) (hf : ∀ b ∈ ch, FpOk X pins H b)
    (k : ∀ b u, b ∉ ch → s.heap.get? b = some u → h'.get? b = some u) (hp : s.heap.objs.size ≤ t) (new : ObjOk X.prog X.w (upd H t o) h' t o) :
    Inv X pins σ (upd H t o) { s with heap := h', toks := t' } := by
  have hn : H t = none := I.hok.fresh hp
  have nch : ∀ b u, H b = some u → b ∉ ch := fun b u e z => by rw [(hf b z).1] at e; cases e
  have net : ∀ b u, s.heap.get? b = some u → b ≠ t := fun b u e => Nat.ne_of_lt (Nat.lt_of_lt_of_le (Heap.lt_size e) hp)
  refine I.step (g' := s.gens) (d' := s.drawn) (ch := ch) (fun b hb => ?_) (fun b u _ _ hc e _ => k b u hc e) (fun b u _ _ hc e _ => ⟨u.slots, k b u hc e⟩)
    (fun b u _ e n => by rw [upd_ne (net b u e)]; exact n) (fun b u hc e => ⟨u, k b u hc e⟩)
    (fun b xs e => by rw [upd_ne (ne_of_none e hn)]; exact e) (fun b u xs e => by rw [upd_ne (ne_of_none e hn)]; exact e)
    (fun b ps e => ⟨#[], by rw [upd_ne (ne_of_none e hn), e]; simp⟩) (fun m hm => ?_) (fun b u e => ?_) I.bare
  · obtain ⟨_, f1, _, f3, f4, f5⟩ := hf b hb
    exact ⟨f3, f1, f4, f5⟩
  · obtain ⟨ob, es, ep, ho, r⟩ := hm
    exact ⟨ob, es, ep, k _ ob (fun z => (hf _ z).2.1 rfl) ho, r⟩
  · by_cases hb : b = t
    · subst hb; rw [upd_same] at e; cases e; exact new
    · rw [upd_ne hb] at e
      refine (I.hok b u e).stay (fun c v hc q => k c v ?_ q) (fun c q => by rw [upd_ne (ne_of_none q hn)]; exact q) fun c xs q => by rw [upd_ne (ne_of_none q hn)]; exact q
      rcases hc with z | z
      · rw [z]; exact nch b u e
      · exact nch c _ z
end

/-! ### enumerate of a list, its pairs taken apart on the spot -/
def Ite (K : PySem.W.Frag) (a : Addr) : It :=
  ⟨fun i H => ∃ xs x, SqL K H a xs ∧ xs[i]? = some x,
   fun i H x H' => ∃ t v, x = .ref t ∧ H t = none ∧ H' = upd H t (.tup [.int (i : Int), v]) ∧ ∀ xs, SqL K H a xs → xs[i]? = some v,
   fun i H => ∃ xs, SqL K H a xs ∧ xs.length ≤ i⟩
theorem turn_enum {P : Program} {w : World} {K : PySem.W.Frag} {es : List Expr} {kk : Nat} {pos : Pos} (a it e : Addr) (hne : e ≠ it) :
    Turn P w K (.Tuple es kk pos) (Ite K a) [e, it] e (fun i h => (∃ old, IsEnum h e it ((i : Nat) : Int) old) ∧ h.IsListIter it a i) where
  mem := by simp
  obj := fun i h st b hb => by
    obtain ⟨⟨old, he⟩, hi⟩ := st
    rcases List.mem_cons.mp hb with rfl | hb
    · exact ⟨_, he, fun v z => by
        have z' : Data.fields _ = Data.cell v := z
        cases z'⟩
    · have eb := List.mem_singleton.mp hb
      subst eb
      obtain ⟨o, e1, c, d⟩ := hi
      exact ⟨o, e1, fun v z => by rw [d] at z; cases z⟩
  keep := fun i h h' st k => by
    obtain ⟨⟨old, he⟩, hi⟩ := st
    exact ⟨⟨old, k e (by simp) _ he⟩, hi.at fun o q => k it (by simp) o q⟩
  item := by
    intro X hP hw hK hc i pins s σ H E I hf st hg
    subst hP hw hK
    obtain ⟨⟨old, he⟩, hi⟩ := st
    obtain ⟨xs, x, hq, hx⟩ := hg
    obtain ⟨its, rv, p, hz⟩ := I.list hq
    obtain ⟨u, hu, ru⟩ := rv.get hx
    have hel : e < s.heap.objs.size := Heap.lt_size he
    have hil : it < s.heap.objs.size := by obtain ⟨o, q, _⟩ := id hi; exact Heap.lt_size q
    refine wpAny_pyNext_enum_item he hi p.isList (x := u) (by simpa using hu) hne fun h1 ho hi1 hT hsz hk => ?_
    refine ⟨_, rfl, wpAny_letOwnedTupleGo_enum ho fun h2 he2 hs2 => ?_⟩
    replace hs2 : Heap.SameBut e h1 h2 := hs2
    have hT2 : h2.get? s.heap.objs.size = some { cls := .type "tuple", data := .seq #[.int (i : Int) s.toks, u] } := (hs2.2 _ (Nat.ne_of_gt hel)).trans hT
    have I1 : Inv X pins σ (upd H s.heap.objs.size (.tup [.int (i : Int), x])) { s with heap := h2, toks := s.toks + 1 } :=
      I.turnL (ch := [e, it]) hf (fun b o hb q => by
        have hbe : b ≠ e := fun z => hb (by simp [z])
        have hbi : b ≠ it := fun z => hb (by simp [z])
        exact hs2.extBut b o hbe (hk b o hbe hbi q)) (Nat.le_refl _)
        ⟨by show 2 ≤ sizeLine; decide, [.int (i : Int) s.toks, u], .cons ⟨_, rfl⟩ (.cons ru .nil), ⟨_, hT2, rfl, _, rfl⟩⟩
    refine ⟨.ref s.heap.objs.size, _, I1, rfl, ⟨_, x, rfl, I.hok.fresh (Nat.le_refl _), rfl, fun ys hy => by rw [I.list_inj hy hq]; exact hx⟩, ⟨⟨u, ?_⟩, ?_⟩, fun b hb => ?_⟩
    · have : ((i + 1 : Nat) : Int) = (i : Int) + 1 := by push_cast; rfl
      rw [this]; exact he2
    · exact hi1.extBut hs2.extBut (Ne.symm hne)
    · have hbl : b < s.heap.objs.size := by
        rcases List.mem_cons.mp hb with rfl | hb
        · exact hel
        · rw [List.mem_singleton.mp hb]; exact hil
      rw [upd_ne (Nat.ne_of_lt hbl)]
      exact (hf b hb).1
  done := by
    intro X hP hw hK hc i pins s σ H E I hf st hg
    subst hP hw hK
    obtain ⟨⟨old, he⟩, hi⟩ := st
    obtain ⟨xs, hq, hx⟩ := hg
    obtain ⟨its, rv, p, hz⟩ := I.list hq
    obtain ⟨f0, f1, f2, f3, f4, f5⟩ := hf it (by simp)
    have hl := rv.length
    exact wpAny_pyNext_enum_end (I.ok.hd hc) he hi p.isList (by simp; omega) fun h' eb => ⟨rfl, I.turned (t' := s.toks) (fun b o hb e => eb b o hb e) f0 f1 f3 f4 f5⟩
  self := fun _ _ _ _ _ st h => by
    obtain ⟨⟨old, he⟩, _⟩ := st
    exact wpAny_pyIter_enum he h
section
variable {X : Cx}
def iEnum (K : PySem.W.Frag) (ta : TA) : TI := fun σ H R => ta σ H fun vs H1 => ∃ a, vs = [.ref a] ∧ (∃ xs, SqL K H1 a xs) ∧ R (Ite K a) H1
theorem pi_enum {es : List Expr} {kk : Nat} {p0 : Pos} {l : Expr} {ta : TA} {p pos : Pos} (hg : Gl X "enumerate") (hm : X.mg "enumerate" = none) (ha : PA X [l] ta) (hs : starEach [l] X.env = [(false, eval l X.env)] := by rfl) :
    PI X (.Tuple es kk p0) (.Call (.Name "enumerate" p) [l] [] pos) (iEnum X.K ta) := by
  intro pins s σ H R I h
  refine Call_ (ld_blt I hg hm boot_enumerate (PyProof.Rows.callWith_type1 (thn (ha pos pins s σ H _ I h) fun us s1 ⟨vs, H1, I1, r1, q1⟩ => ?_) hs rfl))
  obtain ⟨a, e, ⟨xs, hq⟩, q⟩ := q1
  subst e
  cases r1 with
  | cons r rr =>
    cases rr
    cases r
    obtain ⟨its, rv, p, hz⟩ := I1.list hq
    refine call_enumerate_list p.isList fun h' he hi hsz hk => ?_
    refine wpAny_pyIter_enum he ?_
    have I2 : Inv X pins σ H1 { s1 with heap := h' } := I1.kept (t' := s1.toks) hk
    refine ⟨s1.heap.objs.size + 1, [s1.heap.objs.size + 1, s1.heap.objs.size], _, _, H1, rfl, I2, turn_enum a s1.heap.objs.size (s1.heap.objs.size + 1) (Nat.succ_ne_self _), ⟨⟨_, he⟩, hi⟩, fun b hb => ?_, q⟩
    have hb' : s1.heap.objs.size ≤ b := by
      rcases List.mem_cons.mp hb with rfl | hb
      · exact Nat.le_succ _
      · rw [List.mem_singleton.mp hb]; exact Nat.le_refl _
    exact I1.fpOk hb' (I1.hok.fresh hb')
/-- over the pairs of a list that the body leaves as it is -/
theorem for_enum {K : PySem.W.Frag} {a : Addr} {xs : List V} {g : TG} {tb : TS} {D : Ends} {σ : St} {H : Hp} (Pv : Nat → St → Hp → Prop) (h0 : Pv 0 σ H) (hl : ∀ i σ H, i ≤ xs.length → Pv i σ H → SqL K H a xs)
    (hs : ∀ i x σ H t, xs[i]? = some x → Pv i σ H → H t = none → g (.ref t) σ (upd H t (.tup [.int (i : Int), x])) fun σ2 H2 => tb { D with nx := Pv (i + 1), ct := Pv (i + 1), bk := D.nx } σ2 H2) (hd : ∀ σ H, Pv xs.length σ H → D.nx σ H) :
    ∃ W : Nat → Nat → St → Hp → Prop, (∃ m, W 0 m σ H) ∧ ∀ i m σ H, W i m σ H →
      ((Ite K a).stop i H ∧ D.nx σ H) ∨ ((Ite K a).go i H ∧ ∃ N : St → Hp → Prop, (∀ σ' H', N σ' H' → ∃ m', m' < m ∧ W (i + 1) m' σ' H') ∧ ∀ x H', (Ite K a).yld i H x H' → g x σ H' fun σ2 H2 => tb { D with nx := N, ct := N, bk := D.nx } σ2 H2) := by
  refine ⟨fun i m σ H => m = xs.length - i ∧ i ≤ xs.length ∧ Pv i σ H, ⟨xs.length, by simp, Nat.zero_le _, h0⟩, ?_⟩
  rintro i m σ H ⟨rfl, hi, p⟩
  have q := hl i σ H hi p
  by_cases hlt : i < xs.length
  · refine .inr ⟨⟨xs, xs[i], q, by simp [hlt]⟩, Pv (i + 1), fun σ' H' p' => ⟨xs.length - (i + 1), by omega, rfl, hlt, p'⟩, fun x H' y => ?_⟩
    obtain ⟨t, v, rfl, ht, rfl, y⟩ := y
    exact hs i v σ H t (y xs q) p ht
  · have e : i = xs.length := by omega
    subst e
    exact .inl ⟨⟨xs, q, Nat.le_refl _⟩, hd σ H p⟩
end

/-! ### list comprehensions, one clause, no test -/
def relS (scope sc0 : Scope) : Scope := { scope with names := scope.names.map fun (n, k) => if (k == .free && sc0.kind == .function && sc0.names.lookup n == some .cell) then (n, .cell) else (n, k) }
def blk (X : Cx) (N' : List Str) (scope : Scope) (cl : List (Str × Addr)) (C : Addr) (s : Shared) (H : Hp) (ex : List Addr) (pins : List (Addr × Obj)) : Cx :=
  { X with N := N', s₀ := s, H₀ := H, env := compEnvC scope cl C X.env, outer := X.stack, ex := ex, fn := fun _ => false, pn := X.pn ++ pins, xe := fun _ _ => False }
def capOk (N : List Str) (sc : Scope) (p : Str × Option Nat) : Bool :=
  match p.2 with
  | none => true
  | some j => N[j]? == some p.1 && sc.names.lookup p.1 == some NameKind.free
/-- the block's names N', caps: from which slot of the def each comes (none: its own) -/
structure BlkScope (N : List Str) (sc0 sc : Scope) (N' : List Str) (caps : List (Option Nat)) : Prop where
  kind : sc.kind = .function
  names : ∀ x ∈ sc.names, x.2 = .local → sc.names.lookup x.1 = some .local
  nocell : ∀ x ∈ sc.names, x.2 ≠ .cell
  frees : ∀ x ∈ sc.names, x.2 = .free → sc0.names.lookup x.1 = some .cell ∨ sc0.names.lookup x.1 = some .free
  len : caps.length = N'.length
  cap : ((N'.zip caps).all (capOk N sc)) = true
  nd : N'.Nodup
def capσ (caps : List (Option Nat)) (σ : St) : St := caps.map fun o => o.bind fun j => σ.getD j none
def Wk (σ' σ : St) : Prop := σ'.length = σ.length ∧ ∀ (i : Nat) v, σ'[i]? = some (some v) → σ[i]? = some (some v)
theorem Wk.set {σ : St} {i : Nat} {v : V} (h : σ[i]? = some none) : Wk σ (σ.set i (some v)) := by
  refine ⟨by simp, fun j w e => ?_⟩
  by_cases hj : i = j
  · subst hj; rw [h] at e; cases e
  · rw [List.getElem?_set_ne hj]; exact e
theorem lookup_relS {names : List (Str × NameKind)} {f : Str × NameKind → Str × NameKind} (hf : ∀ x, (f x).1 = x.1) {x : Str} {k : NameKind} (h : (names.map f).lookup x = some k) : ∃ y ∈ names, y.1 = x ∧ (f y).2 = k := by
  induction names with
  | nil => simp at h
  | cons y r ih =>
    rw [List.map_cons] at h
    have hl : List.lookup x (f y :: r.map f) = match x == (f y).1 with | true => some (f y).2 | false => List.lookup x (r.map f) := by
      cases f y with
      | mk a b =>
        simp only [List.lookup_cons]
        cases x == a <;> rfl
    rw [hl] at h
    cases hb : x == (f y).1 with
    | true =>
      rw [hb] at h
      cases h
      exact ⟨y, List.mem_cons_self, by rw [← hf y]; exact (beq_iff_eq.mp hb).symm, rfl⟩
    | false =>
      rw [hb] at h
      obtain ⟨z, hz, e1, e2⟩ := ih h
      exact ⟨z, List.mem_cons_of_mem _ hz, e1, e2⟩

section
variable {X : Cx} {pins : List (Addr × Obj)} {σ : St} {H : Hp} {s : Shared} {scope : Scope} {cl : List (Str × Addr)} {C : Addr} {N' : List Str} {ex : List Addr} {caps : List (Option Nat)}
theorem blk_ok (I : Inv X pins σ H s) (S : BlkScope X.N X.env.scope scope N' caps) (hcl1 : ∀ x c, cl.lookup x = some c → X.env.cells.lookup x = some c) (hcl2 : ∀ x ∈ scope.names, x.2 = .free → ∃ c, cl.lookup x.1 = some c)
    (hC : s.heap.objs.size ≤ C) (hf : ∀ b ∈ ex, FpOk X pins H b) (hex : ∀ b ∈ ex, b < s.heap.objs.size) : (blk X N' scope cl C s H ex pins).Ok where
  mod := I.ok.mod
  kind := S.kind
  glob := I.ok.glob
  blt := I.ok.blt
  above := hC
  inj := fun x y c hx hy => I.ok.inj x y c (hcl1 x c hx) (hcl1 y c hy)
  has := fun x hx => by
    have hx' : (relS scope X.env.scope).names.lookup x = some .cell ∨ (relS scope X.env.scope).names.lookup x = some .free := hx
    have fin : ∀ k, (k = NameKind.cell ∨ k = NameKind.free) → (relS scope X.env.scope).names.lookup x = some k → ∃ c, cl.lookup x = some c := fun k hk hl => by
      obtain ⟨y, hy, e1, e2⟩ := lookup_relS (fun z => by obtain ⟨n, k⟩ := z; dsimp only; split <;> rfl) hl
      obtain ⟨n, k0⟩ := y
      have e1 : n = x := e1
      subst e1
      have hfree : k0 = .free := by
        dsimp only at e2
        split at e2
        · rename_i hcond
          simp only [Bool.and_eq_true, beq_iff_eq] at hcond
          exact hcond.1.1
        · have e2 : k0 = k := e2
          rcases hk with rfl | rfl
          · exact absurd e2 (S.nocell _ hy)
          · exact e2
      exact hcl2 _ hy hfree
    rcases hx' with h | h
    · exact fin _ (.inl rfl) h
    · exact fin _ (.inr rfl) h
  cab := fun _ _ h => by cases h
  hd := I.ok.hd
  frames := I.ok.frames
  stk := .inl rfl
  exf := fun b hb => ⟨Nat.ne_of_lt (Nat.lt_of_lt_of_le (hex b hb) hC), fun x c hc => (hf b hb).2.2.2.2.1 x c (hcl1 x c hc)⟩
  bs := I.bs
  bsz := Nat.le_trans I.ok.bsz I.sz
  noex := fun b o e hb => by
    rcases (hf b hb).2.2.2.1 with z | z
    · exact I.ok.noex b o e z
    · exact absurd (Nat.lt_of_lt_of_le (Heap.lt_size (I.ok.bs b o e).1) z) (Nat.lt_irrefl _)
  exfs := fun b hb hm => by
    rcases List.mem_cons.mp (I.stkSub b hm) with z | z
    · exact (hf b hb).2.1 z
    · exact (hf b hb).2.2.1 z
  funs := I.stack
  frf := I.stkFree

theorem capσ_get {i : Nat} {v : V} (h : (capσ caps σ)[i]? = some (some v)) : ∃ j, caps[i]? = some (some j) ∧ σ[j]? = some (some v) := by
  unfold capσ at h
  rw [List.getElem?_map] at h
  cases hc : caps[i]? with
  | none => rw [hc] at h; simp at h
  | some o =>
    rw [hc] at h
    cases o with
    | none => simp at h
    | some j =>
      refine ⟨j, rfl, ?_⟩
      have h : σ.getD j none = some v := by simpa using h
      rw [List.getD_eq_getElem?_getD] at h
      cases hj : σ[j]? with
      | none => rw [hj] at h; simp at h
      | some w => rw [hj] at h; simp at h; rw [h]

theorem blk_inv {acc n t' : Nat} {h₁ : Heap} {m : Str → Option Value} (I : Inv X pins σ H s) (S : BlkScope X.N X.env.scope scope N' caps) (hcl1 : ∀ x c, cl.lookup x = some c → X.env.cells.lookup x = some c) (hcl2 : ∀ x ∈ scope.names, x.2 = .free → ∃ c, cl.lookup x.1 = some c)
    (hC : s.heap.objs.size ≤ C) (hf : ∀ b ∈ ex, FpOk X pins H b) (hex : ∀ b ∈ ex, b < s.heap.objs.size) (hns : h₁.Ns C m) (old : ∀ b o, s.heap.get? b = some o → h₁.get? b = some o)
    (hacc : h₁.get? acc = some { cls := .type "list", data := .seq #[] n }) (hge : s.heap.objs.size ≤ acc) (hne : acc ≠ C) :
    Inv (blk X N' scope cl C s H ex pins) [] (capσ caps σ) (upd H acc (.lst [])) { s with heap := h₁, toks := t' } where
  ok := blk_ok I S hcl1 hcl2 hC hf hex
  os := rfl
  bare := I.bare
  base := Un.laid old hge (I.hok.fresh hge)
  loc := ⟨m, hns, fun i x v e1 e2 e3 => by
    obtain ⟨j, hj, hv⟩ := capσ_get e2
    have hz : (x, some j) ∈ N'.zip caps := by
      have : (N'.zip caps)[i]? = some (x, some j) := by rw [List.getElem?_zip_eq_some]; exact ⟨e1, hj⟩
      exact List.mem_of_getElem? this
    have hk := List.all_eq_true.mp S.cap _ hz
    simp only [capOk, Bool.and_eq_true, beq_iff_eq] at hk
    obtain ⟨hN, hfr⟩ := hk
    have hmem : (x, NameKind.free) ∈ scope.names := by
      have e : ∀ {l : List (Str × NameKind)}, l.lookup x = some .free → (x, NameKind.free) ∈ l := fun {l} => mem_of_lookup
      exact e hfr
    have h0 := S.frees _ hmem rfl
    obtain ⟨m0, hn0, hl⟩ := I.loc
    obtain ⟨u, r, l⟩ := hl j x v hN hv (by
      rcases h0 with h0 | h0
      · exact .inr (.inl h0)
      · exact .inr (.inr h0))
    refine ⟨u, r, ?_⟩
    have hcase : ∃ c, X.env.cells.lookup x = some c ∧ s.heap.IsCell c (some u) := by
      rcases l with ⟨hk, _⟩ | ⟨_, c, hc, hcell⟩
      · have hk' : X.env.scope.names.lookup x = some .local := hk
        rcases h0 with h0 | h0 <;> (rw [h0] at hk'; cases hk')
      · exact ⟨c, hc, hcell⟩
    obtain ⟨c, hc, hcell⟩ := hcase
    obtain ⟨c', hc'⟩ := hcl2 _ hmem rfl
    have ec := hcl1 x c' hc'
    rw [hc] at ec
    cases ec
    refine .inr ⟨?_, c, hc', hcell.keeps old⟩
    have e3' : Vis (relS scope X.env.scope) x := e3
    rcases e3' with h | h | h
    · exfalso
      obtain ⟨y, hy, q1, q2⟩ := lookup_relS (fun z => by obtain ⟨n, k⟩ := z; dsimp only; split <;> rfl) h
      obtain ⟨nn, k0⟩ := y
      have q1 : nn = x := q1
      subst q1
      dsimp only at q2
      split at q2
      · cases q2
      · have q2 : k0 = .local := q2
        subst q2
        have := S.names _ hy rfl
        have this : scope.names.lookup nn = some .local := this
        rw [hfr] at this; cases this
    · exact .inl h
    · exact .inr h⟩
  cell := fun x c e => let ⟨v, z⟩ := I.cell x c (hcl1 x c e); ⟨v, z.keeps old⟩
  free := by
    show upd H acc (.lst []) C = none
    rw [upd_ne (Ne.symm hne)]; exact I.hok.fresh hC
  freeC := fun x c e => by
    obtain ⟨v, z⟩ := I.cell x c (hcl1 x c e)
    have hl : c ≠ acc := Nat.ne_of_lt (Nat.lt_of_lt_of_le z.lt hge)
    rw [upd_ne hl]; exact I.freeC x c (hcl1 x c e)
  pin := fun p hp => by
    have hp' : p ∈ X.pn ++ pins := by
      have : p ∈ (X.pn ++ pins) ++ [] := hp
      simpa using this
    obtain ⟨e, n, ne, nf, d⟩ := I.pin p hp'
    have hlt := Heap.lt_size e
    refine ⟨old _ _ e, ?_, Nat.ne_of_lt (Nat.lt_of_lt_of_le hlt hC), fun z => ?_, d⟩
    · rw [upd_ne (Nat.ne_of_lt (Nat.lt_of_lt_of_le hlt hge))]; exact n
    · rcases List.mem_cons.mp (I.stkSub _ z) with z | z
      · exact ne z
      · exact nf z
  hok := I.hok.laid old hge ⟨Nat.zero_le _, [], n, .nil, hacc⟩
  len := by
    show (capσ caps σ).length = N'.length
    unfold capσ; rw [List.length_map]; exact S.len

/-- back from the block -/
theorem blk_back {H' : Hp} {s' : Shared} {σ' : St} {pins' : List (Addr × Obj)} (I : Inv X pins σ H s) (J : Inv (blk X N' scope cl C s H ex pins) pins' σ' H' s') (hf : ∀ b ∈ ex, FpOk X pins H b) : Inv X pins σ H' s' :=
  I.call' (ch := ex) J.os J.base J.hok J.bare fun b hb => by
    obtain ⟨_, f1, _, f3, f4, f5⟩ := hf b hb
    exact ⟨f3, f1, f4, f5⟩
/-- an untracked object at C, younger than the state s, has changed -/
theorem Inv.letC {H' : Hp} {s' : Shared} {h'' : Heap} {σ' : St} (I : Inv X pins σ H s) (hC : s.heap.objs.size ≤ C) (J : Inv X pins σ' H' s') (hn : H' C = none) (hs : Heap.SameBut C s'.heap h'') : Inv X pins σ' H' { s' with heap := h'' } := by
  refine J.turned (it := C) (t' := s'.toks) (fun b o hb e => (hs.2 b hb).trans e) hn (Nat.ne_of_gt (Nat.lt_of_lt_of_le I.lt hC)) (.inr (Nat.le_trans I.sz hC)) (fun x c e => ?_) fun p hp => ?_
  · obtain ⟨v, z⟩ := I.cell x c e
    exact Nat.ne_of_lt (Nat.lt_of_lt_of_le z.lt hC)
  · obtain ⟨e, _⟩ := I.pin p hp
    exact Nat.ne_of_lt (Nat.lt_of_lt_of_le (Heap.lt_size e) hC)
end

def tComp (wi : TI) (g : TG) (te : TE) (caps : List (Option Nat)) : TE := fun σ H Q => wi σ H fun J H1 => ∀ acc, H1 acc = none → ∃ W : Nat → Nat → List V → Hp → Prop, (∃ m, W 0 m [] (upd H1 acc (.lst []))) ∧ ∀ i m ys H, W i m ys H →
  (J.stop i H ∧ Q (.ref acc) H) ∨ (J.go i H ∧ ∃ N : List V → Hp → Prop, (∀ ys' H', N ys' H' → ∃ m', m' < m ∧ W (i + 1) m' ys' H') ∧ ∀ x H', J.yld i H x H' → g x (capσ caps σ) H' fun σ2 H2 => Wk (capσ caps σ) σ2 ∧ te σ2 H2 fun y H3 => H3 acc = some (.lst ys) ∧ ys.length < sizeLine ∧ N (ys ++ [y]) (upd H3 acc (.lst (ys ++ [y]))))

section
variable {X : Cx} {scope : Scope} {N' : List Str} {caps : List (Option Nat)} {elt iter tg : Expr} {pos : Pos} {wi : TI} {g : TG} {te : TE}

def CompR (caps : List (Option Nat)) (g : TG) (te : TE) (σ : St) (Q : VK) (J : It) (H1 : Hp) : Prop := ∀ acc, H1 acc = none → ∃ W : Nat → Nat → List V → Hp → Prop, (∃ m, W 0 m [] (upd H1 acc (.lst []))) ∧ ∀ i m ys H, W i m ys H →
  (J.stop i H ∧ Q (.ref acc) H) ∨ (J.go i H ∧ ∃ N : List V → Hp → Prop, (∀ ys' H', N ys' H' → ∃ m', m' < m ∧ W (i + 1) m' ys' H') ∧ ∀ x H', J.yld i H x H' → g x (capσ caps σ) H' fun σ2 H2 => Wk (capσ caps σ) σ2 ∧ te σ2 H2 fun y H3 => H3 acc = some (.lst ys) ∧ ys.length < sizeLine ∧ N (ys ++ [y]) (upd H3 acc (.lst (ys ++ [y]))))
theorem comp_core {pins : List (Addr × Obj)} {s : Shared} {σ : St} {H : Hp} {cl : List (Str × Addr)} {Q : VK} {E : Value → Shared → Prop} {RR : Value → Addr → Result → Shared → Prop} {it : Addr} {fp : List Addr} {tn : Nat → Heap → Prop} {J : It} (hc : X.calm = true) (S : BlkScope X.N X.env.scope scope N' caps)
    (hg : ∀ cl C s H ex pins, PG (blk X N' scope cl C s H ex pins) tg g) (he : ∀ cl C s H ex pins, PE (blk X N' scope cl C s H ex pins) elt te)
    (hcl1 : ∀ x c, cl.lookup x = some c → X.env.cells.lookup x = some c) (hcl2 : ∀ x ∈ scope.names, x.2 = .free → ∃ c, cl.lookup x.1 = some c)
    (I : Inv X pins σ H s) (T : Turn X.prog X.w X.K tg J fp it tn) (st : tn 0 s.heap) (f2 : ∀ b ∈ fp, FpOk X pins H b) (R : CompR caps g te σ Q J H)
    (hRR : ∀ acc C H' s' m, s.heap.objs.size ≤ C → s'.heap.Ns C m → Inv X pins σ H' s' → H' C = none → Q (.ref acc) H' → RR (.ref acc) C (.ok .next) s') :
    wpAny (model X.prog X.w) X.A (newList []) (fun acc s₃ => wpAny (model X.prog X.w) X.A (newFunctionEnv scope X.env.globals cl [] X.env.qual none .none (some X.env)) (fun cenv s₄ =>
      codeAny (model X.prog X.w) X.A (.compStart (.ListComp elt [⟨tg, iter, [], 0⟩] scope pos) 0 (.ref it) acc { cenv with scope := relabel scope X.env }) (RR acc cenv.locals) s₄) E s₃) E s := by
  refine wpAny_newObj_type (wpAny_newFunctionEnv S.nocell (by intro y hy; simp at hy) (fun h₁ hns₁ hsb₁ => ?_) S.kind)
  dsimp only at hns₁ hsb₁ ⊢
  generalize hP2 : s.heap.push { cls := .type "list", dict := none, data := .seq ([] : List Value).toArray } = P2 at hns₁ hsb₁ ⊢
  have hC : P2.objs.size = s.heap.objs.size + 1 := by rw [← hP2, Heap.size_push]
  have hDC : s.heap.objs.size ≠ P2.objs.size := by rw [hC]; exact Nat.ne_of_lt (Nat.lt_succ_self _)
  have hCle : s.heap.objs.size ≤ P2.objs.size := by rw [hC]; exact Nat.le_succ _
  have old : ∀ b o, s.heap.get? b = some o → h₁.get? b = some o := fun b o e => hsb₁.extBut b o (by rw [hC]; exact Nat.ne_of_lt (Nat.lt_succ_of_lt (Heap.lt_size e))) (Heap.get?_push_of_some _ (hP2 ▸ Heap.get?_push_of_some _ e))
  have hacc : h₁.get? s.heap.objs.size = some { cls := .type "list", data := .seq #[] } := hsb₁.extBut _ _ hDC (Heap.get?_push_of_some _ (hP2 ▸ Heap.get?_push_size _ rfl))
  have hex : ∀ b ∈ fp, b < s.heap.objs.size := fun b hb => by obtain ⟨o, e, _⟩ := T.obj 0 _ st b hb; exact Heap.lt_size e
  obtain ⟨W, ⟨m0, w0⟩, turn⟩ := R s.heap.objs.size (I.hok.fresh (Nat.le_refl _))
  have I3 : ∀ t', Inv (blk X N' scope cl P2.objs.size s H fp pins) [] (capσ caps σ) (upd H s.heap.objs.size (.lst [])) { s with heap := h₁, toks := t' } := fun t' => blk_inv (t' := t') I S hcl1 hcl2 hCle f2 hex hns₁ old hacc (Nat.le_refl _) hDC
  have stat : ∀ {H' : Hp}, (∀ b ∈ fp, H' b = none) → ∀ b ∈ fp, FpOk (blk X N' scope cl P2.objs.size s H fp pins) [] H' b := fun hn b hb => by
    obtain ⟨_, q1, q2, q3, q4, q5⟩ := f2 b hb
    refine ⟨hn b hb, Nat.ne_of_lt (Nat.lt_of_lt_of_le (hex b hb) hCle), fun z => ?_, .inl hb, fun x c e => q4 x c (hcl1 x c e), fun p hp => q5 p ?_⟩
    · rcases List.mem_cons.mp (I.stkSub b z) with z | z
      · exact q1 z
      · exact q2 z
    · have : p ∈ (X.pn ++ pins) ++ [] := hp
      simpa using this
  have loop : ∀ s₃ : Shared, s₃ = { s with heap := h₁, toks := s.toks + ([] : List (Str × Value)).length } →
      codeAny (model X.prog X.w) X.A (.compLoop (.ListComp elt [⟨tg, iter, [], 0⟩] scope pos) 0 (.ref it) (.ref s.heap.objs.size) (compEnvC scope cl P2.objs.size X.env)) (RR (.ref s.heap.objs.size) P2.objs.size) s₃ := by
    rintro s₃ rfl
    refine codeAny_compLoop_gen (fun n s' => ∃ i ys H', Inv (blk X N' scope cl P2.objs.size s H fp pins) [] (capσ caps σ) H' s' ∧ tn i s'.heap ∧ (∀ b ∈ fp, H' b = none) ∧ W i n ys H') ?_ m0
      ⟨0, [], _, I3 _, T.keep 0 _ _ st (fun b _ o e => old b o e), fun b hb => by rw [upd_ne (Nat.ne_of_lt (hex b hb))]; exact (f2 b hb).1, w0⟩
    rintro n s4 ⟨i, ys, H4, I4, st4, fr4, w4⟩
    rcases turn i n ys H4 w4 with ⟨stop, q⟩ | ⟨go, N, hN, step⟩
    · refine thn (T.done (blk X N' scope cl P2.objs.size s H fp pins) rfl rfl rfl hc i [] s4 _ H4 _ I4 (stat fr4) st4 stop) fun r s5 ⟨hr, I5⟩ => ?_
      subst hr
      obtain ⟨m, hm, _⟩ := id I5.loc
      exact hRR _ _ H4 s5 m hCle hm (blk_back I I5 f2) I5.free q
    · refine thn (T.item (blk X N' scope cl P2.objs.size s H fp pins) rfl rfl rfl hc i [] s4 _ H4 _ I4 (stat fr4) st4 go) fun r s5 ⟨u, hr, h5⟩ => ?_
      subst hr
      refine thn h5 fun _ s6 ⟨x, H6, I6, r6, y6, st6, fr6⟩ => ?_
      have I6' := I6.pinned (stat fr6) (T.obj _ _ st6)
      refine thn (hg cl _ s H fp pins _ s6 _ H6 x u _ I6' r6 (step x H6 y6)) fun _ s7 ⟨σ7, H7, I7, wk7, q7⟩ => ?_
      refine thn (he cl _ s H fp pins _ s7 σ7 H7 _ I7 q7) fun yv s8 ⟨y, H8, I8, r8, ha8, hsz8, w8⟩ => ?_
      refine thn (mt_append (X := blk X N' scope cl P2.objs.size s H fp pins) _ s8 σ7 H8 (.ref s.heap.objs.size) [y] (.ref s.heap.objs.size) [yv] (fun _ H9 => H9 = upd H8 s.heap.objs.size (.lst (ys ++ [y]))) I8 rfl (.cons r8 .nil) ⟨_, ys, y, rfl, rfl, ha8, hsz8, rfl⟩) fun _ s9 ⟨_, H9, I9, _, e9⟩ => ?_
      subst e9
      obtain ⟨m', hm', w8⟩ := hN _ _ w8
      refine ⟨m', hm', i + 1, ys ++ [y], _, I9.unpinned.weak wk7.1 wk7.2, T.keep _ _ _ st6 fun b hb o e => (I9.pin (b, o) (List.mem_append_right _ (List.mem_append_right _ (mem_pinsAt hb e)))).1, fun b hb => ?_, w8⟩
      obtain ⟨o, e, d⟩ := T.obj _ _ st6 b hb
      exact (I9.pin (b, o) (List.mem_append_right _ (List.mem_append_right _ (mem_pinsAt hb e)))).2.1
  exact codeAny_compStart_list (loop _ rfl) (T.self _ 0 _ _ _ (T.keep 0 _ _ st (fun b _ o e => old b o e)) (loop _ rfl))

theorem clos_of {pins : List (Addr × Obj)} {s : Shared} {σ : St} {H : Hp} (I : Inv X pins σ H s) (S : BlkScope X.N X.env.scope scope N' caps) :
    ∃ cl, closureFor scope X.env = pure cl ∧ (∀ x c, cl.lookup x = some c → X.env.cells.lookup x = some c) ∧ ∀ x ∈ scope.names, x.2 = .free → ∃ c, cl.lookup x.1 = some c :=
  closure_ok fun x hx hf => I.ok.has x.1 (S.frees x hx hf)

theorem pe_comp {N : List Str} {sc0 : Scope} (S : BlkScope N sc0 scope N' caps) (hc : X.calm = true) (hi : PI X tg iter wi)
    (hg : ∀ cl C s H ex pins, PG (blk X N' scope cl C s H ex pins) tg g) (he : ∀ cl C s H ex pins, PE (blk X N' scope cl C s H ex pins) elt te)
    (hs : ∀ x, foldedSetIterable iter X.env x = pure x := by intro _; rfl) (hN0 : X.N = N := by rfl) (h00 : X.env.scope = sc0 := by rfl) : PE X (.ListComp elt [⟨tg, iter, [], 0⟩] scope pos) (tComp wi g te caps) := by
  subst hN0 h00
  intro pins s σ H Q I h
  obtain ⟨cl, hclos, hcl1, hcl2⟩ := clos_of I S
  rw [eval_ListComp]
  refine wpAny_comprehension_free (use := none) rfl hs hclos S.kind S.names (thn (hi pins s σ H _ I h) fun xv s1 h1 => thn h1 fun itv s2 h2 => ?_)
  obtain ⟨it, fp, tn, J, H2, e, I2, T, st2, f2, R⟩ := h2
  subst e
  refine comp_core (RR := fun acc C => compPost (model X.prog X.w) X.A X.xe none (EP X pins σ Q) acc C) hc S hg he hcl1 hcl2 I2 T st2 f2 R ?_
  intro acc C H' s' m hC hm J' hn q
  exact ⟨m, hm, fun h' hs' => ⟨.ref _, H', I2.letC hC J' hn hs', rfl, q⟩⟩

/-- name = [.. for ..], the store exchanged with the letting go of the block's names -/
theorem ps_setC {i : Nat} {x : Str} {pos' spos : Pos} {N : List Str} {sc0 : Scope} (S : BlkScope N sc0 scope N' caps) (hc : X.calm = true) (hN : X.N.Nodup) (hi' : X.N[i]? = some x) (hx : Loc X.env.scope x) (hi : PI X tg iter wi)
    (hg : ∀ cl C s H ex pins, PG (blk X N' scope cl C s H ex pins) tg g) (he : ∀ cl C s H ex pins, PE (blk X N' scope cl C s H ex pins) elt te)
    (hsw : swapsWith (.ListComp elt [⟨tg, iter, [], 0⟩] scope pos) (some (.Name x pos')) spos.line X.env = pure true := by rfl)
    (hf : X.fn x = true ∨ X.env.scope.names.lookup x = some .local := by first | exact .inl rfl | exact .inr rfl | assumption)
    (hs : ∀ x, foldedSetIterable iter X.env x = pure x := by intro _; rfl) (hN0 : X.N = N := by rfl) (h00 : X.env.scope = sc0 := by rfl) : PS X (.Assign [.Name x pos'] (.ListComp elt [⟨tg, iter, [], 0⟩] scope pos) spos) (tAsg (tComp wi g te caps) (gName i)) := by
  subst hN0 h00
  intro pins s σ H D I h
  obtain ⟨cl, hclos, hcl1, hcl2⟩ := clos_of I S
  rw [exec_Assign_Name_used _ _ _ _ hsw]
  refine wpAny_bind (wpAny_standAt (wpAny_bind ?_))
  show wpAny _ X.A (do let _ ← comprehension (.ListComp elt [⟨tg, iter, [], 0⟩] scope pos) scope X.env _ (newList []) false (eval iter X.env) (some (assign (.Name x pos') X.env))) _ _ s
  refine wpAny_bind (wpAny_mono (wpAny_comprehension_free (use := some (assign (.Name x pos') X.env)) (Q := fun _ s' => SP X pins D .next s') rfl hs hclos S.kind S.names
    (thn (hi pins s σ H _ I h) fun xv s1 h1 => thn h1 fun itv s2 h2 => ?_)) (fun _ s' hq => wpAny_pure (wpAny_pure hq)) fun _ _ e => e)
  obtain ⟨it, fp, tn, J, H2, e, I2, T, st2, f2, R⟩ := h2
  subst e
  refine comp_core (Q := fun x H1 => gName i x σ H1 D.nx) (RR := fun acc C => compPost (model X.prog X.w) X.A X.xe (some (assign (.Name x pos') X.env)) (fun _ s' => SP X pins D .next s') acc C) hc S hg he hcl1 hcl2 I2 T st2 f2 R ?_
  intro acc C H' s' m hC hm J' hn q
  obtain ⟨o, es, ep, ho, hd, hr⟩ := id hm
  have hCL : C ≠ X.env.locals := Nat.ne_of_gt (Nat.lt_of_lt_of_le I2.lt hC)
  have JP : Inv X (pins ++ [(C, o)]) σ H' s' := J'.pins_of fun p hp => by
    rcases List.mem_append.mp hp with hp | hp
    · exact J'.pin p (List.mem_append_right _ hp)
    · have e := List.mem_singleton.mp hp
      subst e
      exact ⟨ho, hn, hCL, I2.nofs hC, fun v z => by have z' : o.data = .cell v := z; rw [hd] at z'; cases z'⟩
  show wpAny _ X.A (assign (.Name x pos') X.env (.ref acc)) _ _ s'
  refine thn (pg_name hN hi' hx hf (pins ++ [(C, o)]) s' σ H' (.ref acc) (.ref acc) D.nx JP rfl q) fun _ s'' ⟨σ'', H'', J'', q''⟩ => ?_
  have hp := J''.pin (C, o) (List.mem_append_right _ (List.mem_append_right _ (List.mem_singleton.mpr rfl)))
  exact ⟨m, ⟨o, es, ep, hp.1, hd, hr⟩, fun h' hs' => ⟨σ'', H'', I2.letC hC J''.unpinned hp.2.1 hs', q''⟩⟩
end

/-! ### what a comprehension's reading wants -/
theorem comp_list {K : PySem.W.Frag} {a : Addr} {xs : List V} {g : TG} {te : TE} {caps : List (Option Nat)} {σ : St} {H : Hp} {Q : VK} (Pv : Addr → Nat → List V → Hp → Prop) (h0 : ∀ acc, H acc = none → Pv acc 0 [] (upd H acc (.lst [])))
    (hl : ∀ acc i ys H', H acc = none → i ≤ xs.length → Pv acc i ys H' → SqL K H' a xs)
    (hs : ∀ acc i x ys H', H acc = none → xs[i]? = some x → Pv acc i ys H' → g x (capσ caps σ) H' fun σ2 H2 => Wk (capσ caps σ) σ2 ∧ te σ2 H2 fun y H3 => H3 acc = some (.lst ys) ∧ ys.length < sizeLine ∧ Pv acc (i + 1) (ys ++ [y]) (upd H3 acc (.lst (ys ++ [y]))))
    (hd : ∀ acc ys H', H acc = none → Pv acc xs.length ys H' → Q (.ref acc) H') : CompR caps g te σ Q (Itl K a) H := by
  intro acc hacc
  refine ⟨fun i m ys H => m = xs.length - i ∧ i ≤ xs.length ∧ Pv acc i ys H, ⟨xs.length, by simp, Nat.zero_le _, h0 acc hacc⟩, ?_⟩
  rintro i m ys H' ⟨rfl, hi, p⟩
  have q := hl acc i ys H' hacc hi p
  by_cases hlt : i < xs.length
  · refine .inr ⟨⟨xs, xs[i], q, by simp [hlt]⟩, Pv acc (i + 1), fun ys' H' p' => ⟨xs.length - (i + 1), by omega, rfl, hlt, p'⟩, fun x H'' y => ?_⟩
    obtain ⟨e, y⟩ := y
    subst e
    exact hs acc i x ys _ hacc (y xs q) p
  · have e : i = xs.length := by omega
    subst e
    exact .inl ⟨⟨xs, q, Nat.le_refl _⟩, hd acc ys H' hacc p⟩
theorem comp_range {lo : Int} {n : Nat} {g : TG} {te : TE} {caps : List (Option Nat)} {σ : St} {H : Hp} {Q : VK} (Pv : Addr → Nat → List V → Hp → Prop) (h0 : ∀ acc, H acc = none → Pv acc 0 [] (upd H acc (.lst [])))
    (hs : ∀ acc i ys H', H acc = none → i < n → Pv acc i ys H' → g (.int (lo + i)) (capσ caps σ) H' fun σ2 H2 => Wk (capσ caps σ) σ2 ∧ te σ2 H2 fun y H3 => H3 acc = some (.lst ys) ∧ ys.length < sizeLine ∧ Pv acc (i + 1) (ys ++ [y]) (upd H3 acc (.lst (ys ++ [y]))))
    (hd : ∀ acc ys H', H acc = none → Pv acc n ys H' → Q (.ref acc) H') : CompR caps g te σ Q (Itr lo n) H := by
  intro acc hacc
  refine ⟨fun i m ys H => m = n - i ∧ i ≤ n ∧ Pv acc i ys H, ⟨n, by simp, Nat.zero_le _, h0 acc hacc⟩, ?_⟩
  rintro i m ys H' ⟨rfl, hi, p⟩
  by_cases hlt : i < n
  · refine .inr ⟨hlt, Pv acc (i + 1), fun ys' H' p' => ⟨n - (i + 1), by omega, rfl, hlt, p'⟩, fun x H'' y => ?_⟩
    obtain ⟨e, y⟩ := y
    subst e y
    exact hs acc i ys _ hacc hlt p
  · have e : i = n := by omega
    subst e
    exact .inl ⟨Nat.le_refl _, hd acc ys H' hacc p⟩

/-! ### isinstance, == of lists -/
def cvV : V → Option Value
  | .ty n => some (.type n)
  | .ref a => some (.ref a)
  | _ => none
section
variable {X : Cx}
theorem call_isinst : CallR X (.builtin "isinstance") (fun xs H Q => ∃ x c t cv b, xs = [x, c] ∧ TyOf X.K H x t ∧ cvV c = some cv ∧ PySem.W.kitOne X.K t cv = some b ∧ Q (.bl b) H) := by
  intro pins s σ H xs us Q I r h
  obtain ⟨x, c, t, cv, b, rfl, ty, hc, hk, q⟩ := h
  obtain ⟨u, w', rfl, r1, r2⟩ := vals2 r
  have e : w' = cv := by
    cases c with
    | ty n => have h1 : w' = Value.type n := r2; have h2 : some (Value.type n) = some cv := hc; cases h2; exact h1
    | ref a => have h1 : w' = Value.ref a := r2; have h2 : some (Value.ref a) = some cv := hc; cases h2; exact h1
    | non => cases hc
    | bl _ => cases hc
    | int _ => cases hc
    | str _ => cases hc
    | byt _ => cases hc
    | flt _ => cases hc
  subst e
  exact isinst_ok I r1 ty hk fun tk => ⟨.bl b, H, I.tok tk, rfl, q⟩
theorem op_neI (hu : X.A.units + 64 < cLine) : OpR X (compareOp .NotEq) (fun x y H Q => ∃ (a b : Addr) (ns ms : List Int), x = .ref a ∧ y = .ref b ∧ SqL X.K H a (ns.map V.int) ∧ SqL X.K H b (ms.map V.int) ∧ Q (.bl (!decide (ns = ms))) H) := by
  intro pins s σ H x y v u Q I rx ry h
  obtain ⟨a, b, ns, ms, rfl, rfl, ha, hb, q⟩ := h
  cases rx; cases ry
  obtain ⟨its, rv, p, _⟩ := I.list ha
  obtain ⟨its', rv', p', _⟩ := I.list hb
  exact PySem.W.ke_ne_ints p.isList p'.isList (intsAre_of rv) (intsAre_of rv') hu ⟨.bl _, H, I, rfl, q⟩
end
/-! a value's data, as == reads it -/
mutual
inductive Dt (K : PySem.W.Frag) (H : Hp) : V → PyData → Prop where
  | non : Dt K H .non .none
  | bl (b : Bool) : Dt K H (.bl b) (.bool b)
  | int (i : Int) : Dt K H (.int i) (.int i)
  | str (x : Str) : Dt K H (.str x) (.str x)
  | lst {a : Addr} {xs : List V} {ds : List PyData} : SqL K H a xs → Dts K H xs ds → Dt K H (.ref a) (.list ds)
  | tup {a : Addr} {xs : List V} {ds : List PyData} : SqT K H a xs → Dts K H xs ds → Dt K H (.ref a) (.tuple ds)
inductive Dts (K : PySem.W.Frag) (H : Hp) : List V → List PyData → Prop where
  | nil : Dts K H [] []
  | cons {x : V} {xs : List V} {d : PyData} {ds : List PyData} : Dt K H x d → Dts K H xs ds → Dts K H (x :: xs) (d :: ds)
end
section
variable {X : Cx} {pins : List (Addr × Obj)} {σ : St} {H : Hp} {s : Shared}
mutual
theorem Dt.reads (I : Inv X pins σ H s) : ∀ {x : V} {d : PyData} {u : Value}, Dt X.K H x d → RelV x u → ∃ as, Reads s.heap u d as
  | _, _, _, .non, r => by cases r; exact ⟨_, .none⟩
  | _, _, _, .bl b, r => by cases r; exact ⟨_, .bool b⟩
  | _, _, _, .int i, r => by obtain ⟨t, rfl⟩ := r; exact ⟨_, .int i t⟩
  | _, _, _, .str x, r => by obtain ⟨t, rfl⟩ := r; exact ⟨_, .str x t⟩
  | _, _, _, .lst h hs, r => by
    cases r
    obtain ⟨its, rv, p, _⟩ := I.list h
    obtain ⟨as, q⟩ := Dts.reads I hs rv
    obtain ⟨o, ho, hc, n, hd⟩ := p.isList
    exact ⟨_, .list ho hc hd (by simpa using q)⟩
  | _, _, _, .tup h hs, r => by
    cases r
    obtain ⟨its, rv, p, _⟩ := I.tuple h
    obtain ⟨as, q⟩ := Dts.reads I hs rv
    obtain ⟨o, ho, hc, n, hd⟩ := p
    exact ⟨_, .tuple ho hc hd (by simpa using q)⟩
theorem Dts.reads (I : Inv X pins σ H s) : ∀ {xs : List V} {ds : List PyData} {us : List Value}, Dts X.K H xs ds → Vals xs us → ∃ as, ReadsAll s.heap us ds as
  | _, _, _, .nil, r => by cases r; exact ⟨_, .nil⟩
  | _, _, _, .cons h hs, r => by
    cases r with
    | cons r rr =>
      obtain ⟨as, q⟩ := Dt.reads I h r
      obtain ⟨bs, q'⟩ := Dts.reads I hs rr
      exact ⟨_, .cons q q'⟩
end
end
section
variable {X : Cx}
end
end L2
/-! ## Reading the terms, step by step -/
namespace L2
open PySem PySem.Spec PyProof.Rows
section
variable {t u : TS} {te ta tb tc : TE} {tt uu : TT} {tar : TA} {g : TG} {D : Ends} {σ : St} {H : Hp} {Q : VK} {QB : Bool → Hp → Prop} {QL : List V → Hp → Prop} {QS : St → Hp → Prop} {v x y : V} {i j : Int} {n : Nat} {K : PySem.W.Frag}
theorem r_seq (h : t { D with nx := u D } σ H) : tSeq t u D σ H := h
theorem r_next (h : D.nx σ H) : tNext D σ H := h
theorem r_nx {f b c : St → Hp → Prop} {r : VK} (h : f σ H) : Ends.nx ⟨f, r, b, c⟩ σ H := h
theorem r_rt {f b c : St → Hp → Prop} {r : VK} (h : r v H) : Ends.rt ⟨f, r, b, c⟩ v H := h
theorem r_asg (h : te σ H fun x H1 => g x σ H1 D.nx) : tAsg te g D σ H := h
theorem r_gname (h : QS (σ.set n (some v)) H) : gName n v σ H QS := h
theorem r_gsub {to ti : TE} {ts : TSet} (h : to σ H fun o H1 => ti σ H1 fun i H2 => ts o i v H2 fun H3 => QS σ H3) : gSub to ti ts v σ H QS := h
theorem r_drop (h : te σ H fun _ H1 => D.nx σ H1) : tDrop te D σ H := h
theorem r_ret (h : te σ H D.rt) : tRet te D σ H := h
theorem r_ifs (h : tt σ H fun b H1 => if b = true then t D σ H1 else u D σ H1) : tIfS tt t u D σ H := h
theorem r_var (e : σ[n]? = some (some v)) (h : Q v H) : tVar n σ H Q := ⟨v, e, h⟩
theorem r_C (h : Q v H) : tC v σ H Q := h
theorem r_op {r : R2} (h : ta σ H fun x H1 => tb σ H1 fun y H2 => r x y H2 Q) : tOp r ta tb σ H Q := h
theorem r_test (h : te σ H fun x H' => ∃ k, x = .bl k ∧ QB k H') : tTest te σ H QB := h
theorem r_tB (h : te σ H fun x H' => ∃ k, x = .bl k ∧ QB k H') : tB te σ H QB := h
theorem r_bl {k : Bool} {Q : Bool → Prop} (h : Q k) : ∃ k', V.bl k = .bl k' ∧ Q k' := ⟨k, rfl, h⟩
theorem r_and (h : tt σ H fun c H1 => if c = true then uu σ H1 QB else QB false H1) : tAnd tt uu σ H QB := h
theorem r_or (h : tt σ H fun c H1 => if c = true then QB true H1 else uu σ H1 QB) : tOr tt uu σ H QB := h
theorem r_not (h : tt σ H fun c H1 => QB (!c) H1) : tNot tt σ H QB := h
theorem r_andV (h : ta σ H fun x H1 => ∃ c, x = .bl c ∧ if c = true then tb σ H1 Q else Q (.bl false) H1) : tAndV ta tb σ H Q := h
theorem r_notV (h : ta σ H fun x H1 => ∃ c, x = .bl c ∧ Q (.bl (!c)) H1) : tNotV ta σ H Q := h
theorem r_chain {r r' : R2} (h : ta σ H fun x H1 => tb σ H1 fun y H2 => r x y H2 fun z H3 => ∃ k, z = .bl k ∧ (if k = true then tc σ H3 fun w' H4 => r' y w' H4 Q else Q (.bl false) H3)) : tChain r r' ta tb tc σ H Q := h
theorem r_call {sp : Sp} {dvs : List V} {E : XK} (h : tar σ H fun vs H1 => sp (vs ++ dvs) H1 Q E) : tCall sp dvs E tar σ H Q := h
theorem r_cb {r : List V → Hp → VK → Prop} (h : tar σ H fun vs H1 => r vs H1 Q) : tCB r tar σ H Q := h
theorem r_cons (h : ta σ H fun x H1 => tar σ H1 fun xs H2 => QL (x :: xs) H2) : tCons ta tar σ H QL := h
theorem r_nil (h : QL [] H) : tNil σ H QL := h
theorem r_lst (h : tar σ H fun xs H1 => xs.length ≤ sizeLine ∧ ∀ p, H1 p = none → Q (.ref p) (upd H1 p (.lst xs))) : tLst tar σ H Q := h
theorem r_tup (h : tar σ H fun xs H1 => xs.length ≤ sizeLine ∧ ∀ p, H1 p = none → Q (.ref p) (upd H1 p (.tup xs))) : tTup tar σ H Q := h
theorem r_I0 {f : Int → Int → V} (h : Q (f i j) H) : rI0 f (.int i) (.int j) H Q := ⟨i, j, rfl, rfl, h⟩
theorem r_I {C : Int → Int → Prop} {f : Int → Int → V} (hc : C i j) (h : Q (f i j) H) : rI C f (.int i) (.int j) H Q := ⟨i, j, rfl, rfl, hc, h⟩
theorem r_eq (hs : scal x y = true) (h : Q (.bl (decide (x = y))) H) : rEq x y H Q := ⟨hs, h⟩
theorem r_ne (hs : scal x y = true) (h : Q (.bl (!decide (x = y))) H) : rNe x y H Q := ⟨hs, h⟩
theorem r_ixL {p : Addr} {xs : List V} (hs : SqL K H p xs) (ha : atI xs i = some v) (h : Q v H) : rIxL K (.ref p) (.int i) H Q := ⟨p, xs, i, v, rfl, rfl, hs, ha, h⟩
theorem r_bm {T : String} {r : V → List V → Hp → VK → Prop} {to : TE} (h : to σ H fun x H1 => tyV K T x H1 ∧ tar σ H1 fun xs H2 => r x xs H2 Q) : tBM K T r to tar σ H Q := h
theorem r_ite {A B : Prop} {c : Bool} (h1 : c = true → A) (h2 : c = false → B) : if c = true then A else B := by
  cases c with
  | true => exact h1 rfl
  | false => exact h2 rfl
theorem r_iteP {A B : Prop} {c : Bool} (hc : c = true) (h1 : A) : if c = true then A else B := by rw [if_pos hc]; exact h1
theorem r_iteN {A B : Prop} {c : Bool} (hc : c = false) (h1 : B) : if c = true then A else B := by rw [if_neg (by rw [hc]; decide)]; exact h1
theorem Same.upd_new {H : Hp} {p : Addr} {o : HO} (h : H p = none) : Same H (upd H p o) := fun b u e => by rw [upd_ne (ne_of_none e h)]; exact e
theorem sqL_same {K : PySem.W.Frag} {H H' : Hp} {a : Addr} {xs : List V} (e : Same H H') (h : SqL K H a xs) : SqL K H' a xs := e.seq h
theorem atI_get' {α : Type} {xs : List α} {i : Int} {v : α} (h0 : 0 ≤ i) (h : xs[i.toNat]? = some v) : atI xs i = some v := by
  have := atI_nat (xs := xs) (j := i.toNat) h
  rwa [Int.toNat_of_nonneg h0] at this
end
end L2
namespace L2
open PySem PySem.Spec PyProof.Rows
section
variable {wi : TI} {g : TG} {tb : TS} {te tl : TE} {ta : TA} {D : Ends} {σ : St} {H : Hp} {Q : VK} {R : It → Hp → Prop} {caps : List (Option Nat)} {K : PySem.W.Frag}
theorem r_for (h : wi σ H fun J H1 => ∃ W : Nat → Nat → St → Hp → Prop, (∃ m, W 0 m σ H1) ∧ ∀ i m σ H, W i m σ H →
    (J.stop i H ∧ D.nx σ H) ∨ (J.go i H ∧ ∃ N : St → Hp → Prop, (∀ σ' H', N σ' H' → ∃ m', m' < m ∧ W (i + 1) m' σ' H') ∧ ∀ x H', J.yld i H x H' → g x σ H' fun σ2 H2 => tb { D with nx := N, ct := N, bk := D.nx } σ2 H2)) : tFor wi g tb D σ H := h
theorem r_rng1 (h : ta σ H fun vs H1 => ∃ j : Int, vs = [.int j] ∧ -(2 ^ 62) ≤ j ∧ j < 2 ^ 62 ∧ R (Itr 0 j.toNat) H1) : iRng1 ta σ H R := h
theorem r_ilist (h : tl σ H fun x H1 => ∃ a, x = .ref a ∧ (∃ xs, SqL K H1 a xs) ∧ R (Itl K a) H1) : iList K tl σ H R := h
theorem r_ienum (h : ta σ H fun vs H1 => ∃ a, vs = [.ref a] ∧ (∃ xs, SqL K H1 a xs) ∧ R (Ite K a) H1) : iEnum K ta σ H R := h
theorem r_comp (h : wi σ H fun J H1 => CompR caps g te σ Q J H1) : tComp wi g te caps σ H Q := h
theorem r_meth {C : Addr} {m : Str} {sp : Sp} {dvs : List V} {E : XK} {to : TE} (h : to σ H fun x H1 => ∃ a dx fs, x = .ref a ∧ H1 a = some (.ins C dx fs) ∧ fs.lookup m = none ∧ ta σ H1 fun vs H2 => sp (x :: (vs ++ dvs)) H2 Q E) : tMeth C m sp dvs E to ta σ H Q := h
theorem r_make {C : Addr} {sp : Sp} {dvs : List V} {E : XK} (h : ta σ H fun vs H1 => ∀ x dx, H1 x = none → H1 dx = none → dx ≠ x →
  sp (.ref x :: (vs ++ dvs)) (upd (upd H1 dx (.own x)) x (.ins C dx [])) (fun v H2 => v = .non ∧ Q (.ref x) H2) E) : tMake C sp dvs E ta σ H Q := h
theorem r_sfld {tv to : TE} {f : Str} (h : tv σ H fun y H1 => to σ H1 fun x H2 => ∃ a C dx fs, x = .ref a ∧ H2 a = some (.ins C dx fs) ∧ Cls K C ∧ NoAttr K C f ∧ fs.length < 1000 ∧
  D.nx σ (upd H2 a (.ins C dx (putF f y fs)))) : sFld K to tv f D σ H := h
end
end L2
/-! ### the same rules, the written part K named (a comprehension's block has its own context) -/
namespace L2
open PySem PySem.Spec PyProof.Rows
section
variable {X : Cx} (K : PySem.W.Frag)
theorem call_len_seqK (hK : X.K = K := by rfl) : CallR X (.builtin "len") (fun xs H Q => ∃ p ys, xs = [.ref p] ∧ (SqL K H p ys ∨ SqT K H p ys) ∧ Q (.int ys.length) H) := by subst hK; exact call_len_seq
theorem call_list_ofK (hK : X.K = K := by rfl) : CallR X (.type "list") (fun xs H Q => ∃ p ys, xs = [.ref p] ∧ (SqL K H p ys ∨ SqT K H p ys) ∧ ∀ l, H l = none → Q (.ref l) (upd H l (.lst ys))) := by subst hK; exact call_list_of
theorem call_isinstK (hK : X.K = K := by rfl) : CallR X (.builtin "isinstance") (fun xs H Q => ∃ x c t cv b, xs = [x, c] ∧ TyOf K H x t ∧ cvV c = some cv ∧ PySem.W.kitOne K t cv = some b ∧ Q (.bl b) H) := by subst hK; exact call_isinst
theorem ix_listK (hK : X.K = K := by rfl) : IxR X (rIxL K) := by subst hK; exact ix_list
theorem pe_fldK {e : Expr} {f : Str} {pos : Pos} {ta : TE} (he : PE X e ta) (hb : attributeBase e f X.env (eval e X.env) = eval e X.env) (hK : X.K = K := by rfl) : PE X (.Attribute e f pos) (tFld K ta f) := by subst hK; exact pe_fld he hb
theorem ps_fldK {o value : Expr} {f : Str} {pos pos' : Pos} {ta tv : TE} (ha : PE X o ta) (hv : PE X value tv) (hs : swapsWith value (some (.Attribute o f pos')) pos.line X.env = pure false) (hK : X.K = K := by rfl) : PS X (.Assign [.Attribute o f pos'] value pos) (sFld K ta tv f) := by subst hK; exact ps_fld ha hv hs
theorem pe_bmK {o e : Expr} {es : List Expr} {to : TE} {t : TA} {name : Str} {apos cpos : Pos} {T id : String} {r : V → List V → Hp → VK → Prop} (pa : PlainAttrs T) (slot : Slot T name id) (hty : typeOf (.builtin id) = pure (.type "method_descriptor")) (hm : MtR X id r) (ho : PE X o to) (ha : PA X (e :: es) t)
    (hbase : attributeBase o name X.env (eval o X.env) = eval o X.env := by rfl) (hfew : ((backTo cpos (starEach (e :: es) X.env)).all (fun x => !x.1) && (backToKw cpos (keywordEach [] X.env)).all (fun x => x.1.isSome)
      && decide ((e :: es).length + ([] : List Keyword).length + (if ([] : List Keyword).isEmpty then 0 else 1) < 30)) = true := by rfl)
    (hline : (apos.endLine == cpos.line) = true := by rfl) (hs : starEach (e :: es) X.env = (false, eval e X.env) :: starEach es X.env := by rfl) (hplain : (backTo cpos (starEach es X.env)).any (·.1) = false := by rfl) (hK : X.K = K := by rfl) :
    PE X (.Call (.Attribute o name apos) (e :: es) [] cpos) (tBM K T r to t) := by subst hK; exact pe_bm pa slot hty hm ho ha hbase hfew hline hs hplain
theorem pi_listK {tg l : Expr} {tl : TE} (hl : PE X l tl) (hK : X.K = K := by rfl) : PI X tg l (iList K tl) := by subst hK; exact pi_list hl
theorem pi_enumK {es : List Expr} {kk : Nat} {p0 : Pos} {l : Expr} {ta : TA} {p pos : Pos} (hg : Gl X "enumerate") (hm : X.mg "enumerate" = none) (ha : PA X [l] ta) (hs : starEach [l] X.env = [(false, eval l X.env)] := by rfl) (hK : X.K = K := by rfl) : PI X (.Tuple es kk p0) (.Call (.Name "enumerate" p) [l] [] pos) (iEnum K ta) := by subst hK; exact pi_enum hg hm ha hs
theorem pg_tupK {pos : Pos} {es : List Expr} {k : Nat} {t : TGs} {n : Nat} (hc : X.calm = true) (h : PGs X es t) (hn : (assignEach es X.env).length = n := by rfl) (hst : (assignEach es X.env).findIdx? (·.1) = none := by rfl) (hK : X.K = K := by rfl) : PG X (.Tuple es k pos) (gTup K n t) := by subst hK; exact pg_tup hc h hn hst
theorem op_neIK (hu : X.A.units + 64 < cLine) (hK : X.K = K := by rfl) : OpR X (compareOp .NotEq) (fun x y H Q => ∃ (a b : Addr) (ns ms : List Int), x = .ref a ∧ y = .ref b ∧ SqL K H a (ns.map V.int) ∧ SqL K H b (ms.map V.int) ∧ Q (.bl (!decide (ns = ms))) H) := by subst hK; exact op_neI hu
end
end L2
namespace L2
open PySem PySem.Spec PyProof.Rows
/-- two ways meet: what holds of both -/
def tJoin (t : TS) : TS := fun D σ H => ∃ P : St → Hp → Prop, t { D with nx := P } σ H ∧ ∀ σ' H', P σ' H' → D.nx σ' H'
theorem ps_join {X : Cx} {st : Stmt} {t : TS} (h : PS X st t) : PS X st (tJoin t) := by
  intro pins s σ H D I hw
  obtain ⟨P, h1, h2⟩ := hw
  refine thn (h pins s σ H _ I h1) fun f s' q => ?_
  cases f with
  | next => obtain ⟨σ', H', I', q⟩ := q; exact ⟨σ', H', I', h2 σ' H' q⟩
  | brk => exact q
  | cont => exact q
  | ret v => exact q
theorem r_join {t : TS} {D : Ends} {σ : St} {H : Hp} (P : St → Hp → Prop) (h1 : t { D with nx := P } σ H) (h2 : ∀ σ' H', P σ' H' → D.nx σ' H') : tJoin t D σ H := ⟨P, h1, h2⟩
end L2
/-! ## The mirror: houses as plain data -/
namespace My
open PySem L2
def cellv (ns : List Int) (k : Int) : Int := if k < ns.length then ns.getD k.toNat 0 else 0
def stir1 (c k : Int) : Int := (c % 2147483647 + 977 * k + 1) * 48271 % 2147483647
def stir2 (s k : Int) : Int := (s + 40692 * (k + 3)) * 69621 % 2147483629
def draw (c k b : Int) : Int := stir2 (stir1 c k) k / 8 % b
theorem draw_nn (c k : Int) {b : Int} (h : 0 < b) : 0 ≤ draw c k b := Int.emod_nonneg _ (by omega)
theorem draw_lt (c k : Int) {b : Int} (h : 0 < b) : draw c k b < b := Int.emod_lt_of_pos _ h
def rowBy (c : Int) (d r : Int) (k : Nat) : List Int := (List.range d.toNat).map fun (j : Nat) => draw c (7 * (k : Int) + (j : Int)) r
def waysBy (c d r : Int) : List (List Int) := (List.range r.toNat).map (rowBy c d r)
def lampsBy (c r : Int) : List Bool := (List.range r.toNat).map fun (k : Nat) => decide (draw c (k : Int) 2 = 1)
def wordBy (c d n : Int) : List Int := (List.range n.toNat).map fun (k : Nat) => draw c (k : Int) d
/-- one door on -/
def step (rss : List (List Int)) (q d : Int) : Int := (rss.getD q.toNat []).getD d.toNat 0
def walkI (rss : List (List Int)) (q : Int) (w : List Int) : Int := w.foldl (step rss) q
def trailI (rss : List (List Int)) (w : List Int) : List Int := (List.range (w.length + 1)).map fun j => walkI rss 0 (w.take j)
structure Ways (d : Int) (rss : List (List Int)) : Prop where
  row : ∀ row ∈ rss, (row.length : Int) = d ∧ ∀ x ∈ row, 0 ≤ x ∧ x < rss.length
structure Valid (d : Int) (rss : List (List Int)) (ls : List Bool) : Prop extends Ways d rss where
  d1 : 1 ≤ d
  d6 : d ≤ 6
  r1 : 1 ≤ rss.length
  r400 : rss.length ≤ 400
  ll : ls.length = rss.length
def WordOk (d : Int) (w : List Int) : Prop := ∀ x ∈ w, 0 ≤ x ∧ x < d
theorem step_in {d : Int} {rss : List (List Int)} (W : Ways d rss) {q x : Int} (h0 : 0 ≤ q) (h1 : q < rss.length) (x0 : 0 ≤ x) (x1 : x < d) :
    ∃ row, rss[q.toNat]? = some row ∧ row[x.toNat]? = some (step rss q x) ∧ 0 ≤ step rss q x ∧ step rss q x < rss.length := by
  have hq : q.toNat < rss.length := by omega
  obtain ⟨hl, hr⟩ := W.row rss[q.toNat] (List.getElem_mem hq)
  have hx : x.toNat < rss[q.toNat].length := by omega
  have e : step rss q x = rss[q.toNat][x.toNat] := by
    unfold step
    have e1 : rss.getD q.toNat [] = rss[q.toNat] := by rw [List.getD_eq_getElem?_getD, List.getElem?_eq_getElem hq, Option.getD_some]
    rw [e1, List.getD_eq_getElem?_getD, List.getElem?_eq_getElem hx, Option.getD_some]
  obtain ⟨a, b⟩ := hr _ (List.getElem_mem hx)
  exact ⟨rss[q.toNat], List.getElem?_eq_getElem hq, by rw [e]; exact List.getElem?_eq_getElem hx, by rw [e]; exact a, by rw [e]; exact b⟩
theorem walkI_in {d : Int} {rss : List (List Int)} (W : Ways d rss) : ∀ {w : List Int} {q : Int}, WordOk d w → 0 ≤ q → q < rss.length → 0 ≤ walkI rss q w ∧ walkI rss q w < rss.length
  | [], q, _, h0, h1 => ⟨h0, h1⟩
  | x :: w, q, hw, h0, h1 => by
    obtain ⟨x0, x1⟩ := hw x List.mem_cons_self
    obtain ⟨_, _, _, a, b⟩ := step_in W h0 h1 x0 x1
    exact walkI_in W (w := w) (q := step rss q x) (fun y hy => hw y (List.mem_cons_of_mem _ hy)) a b
theorem walkI_snoc (rss : List (List Int)) (q : Int) (w : List Int) (x : Int) : walkI rss q (w ++ [x]) = step rss (walkI rss q w) x := by
  unfold walkI; rw [List.foldl_append]; rfl
theorem take_snoc {w : List Int} {i : Nat} {x : Int} (h : w[i]? = some x) : w.take (i + 1) = w.take i ++ [x] := by
  rw [List.take_add_one, h]; rfl
theorem WordOk.take {d : Int} {w : List Int} (h : WordOk d w) (i : Nat) : WordOk d (w.take i) := fun x hx => h x (List.mem_of_mem_take hx)
theorem waysBy_len (c d r : Int) : (waysBy c d r).length = r.toNat := by simp [waysBy]
theorem waysBy_ok (c : Int) {d r : Int} (hd : 0 ≤ d) (hr : 0 < r) : Ways d (waysBy c d r) := by
  refine ⟨fun row hrow => ?_⟩
  unfold waysBy at hrow
  obtain ⟨k, hk, rfl⟩ := List.mem_map.mp hrow
  refine ⟨?_, fun x hx => ?_⟩
  · simp [rowBy]; omega
  · unfold rowBy at hx
    obtain ⟨j, hj, rfl⟩ := List.mem_map.mp hx
    have h1 := draw_nn c (7 * (k : Int) + (j : Int)) hr
    have h2 := draw_lt c (7 * (k : Int) + (j : Int)) hr
    rw [waysBy_len]
    exact ⟨h1, by omega⟩
theorem lampsBy_len (c r : Int) : (lampsBy c r).length = r.toNat := by simp [lampsBy]
theorem map_range_snoc {α : Type} (f : Nat → α) (i : Nat) : (List.range (i + 1)).map f = (List.range i).map f ++ [f i] := by
  rw [List.range_succ, List.map_append]; rfl
end My
/-! ## Exceptions of the text's own classes: raised, passed on, caught -/
namespace L2
open PySem PySem.Spec PyProof.Rows

theorem ObjOk.ex {P : Program} {w : World} {H : Hp} {h : Heap} {a : Addr} {o : HO} (x : ObjOk P w H h a o) : ∃ ob, h.get? a = some ob := by
  cases o with
  | lst xs => obtain ⟨_, _, _, _, e⟩ := x; exact ⟨_, e⟩
  | tup xs => obtain ⟨_, _, _, ob, e, _⟩ := x; exact ⟨_, e⟩
  | dK kvs => obtain ⟨_, _, _, _, o, _, _, e, _⟩ := x; exact ⟨_, e⟩
  | dT kvs => obtain ⟨_, _, _, _, o, _, _, e, _⟩ := x; exact ⟨_, e⟩
  | set S n => obtain ⟨o, _, _, _, e, _⟩ := x; exact ⟨_, e⟩
  | ins C dx fs => obtain ⟨_, _, _, e, _⟩ := x; exact ⟨_, e⟩
  | own y => exact x
  | xd fs => obtain ⟨_, ⟨_, _, _, e, _⟩, _⟩ := x; exact ⟨_, e⟩
  | rng lo hi => obtain ⟨_, _, _, e⟩ := x; exact ⟨_, e⟩
  | frz ob u => obtain ⟨e, _⟩ := x; exact ⟨_, e⟩
  | tbl ps => exact ⟨_, x⟩
  | met f y => exact ⟨_, x⟩
  | ext φ => exact x.2.1

/-- an exception that has left a def: it flies over B, which holds all that stood at the raise but the frames -/
def CXr (P : Program) (w : World) : CXT := fun outer H s E e s' => ∃ (ea : Addr) (cls a0 : Value) (B : Heap) (H' : Hp), e = .ref ea ∧ s'.os = s.os ∧ AllBare s'.gens ∧ Un (frs outer) [] H H' s.heap s'.heap ∧ HOk P w H' s'.heap ∧
  Heap.FlyingW B outer ea cls a0 s'.heap ∧ (∀ b o, s.heap.get? b = some o → b ∉ frs outer → ∃ o', B.get? b = some o') ∧ (∀ b u, H' b = some u → ∃ o', B.get? b = some o') ∧ E cls none H'
structure Xp (X : Cx) (E : XK) : Prop where
  pass : Passes (CXr X.prog X.w) X E
  own : PassesOwn (model X.prog X.w) X.A X.env X.xe
def Xm (X : Cx) (E : XK) : Prop := ∀ (pins : List (Addr × Obj)) (σ : St) (H : Hp) (s : Shared) (h' : Heap) (e : Addr) (cls : Value) (args : List Value), Inv X pins σ H s → Heap.MadeExcOf s.heap h' e cls args → E cls none H → X.xe (.ref e) { s with heap := h' }

theorem leave_un {X : Cx} {pins : List (Addr × Obj)} {σ : St} {H : Hp} {s1 : Shared} (I : Inv X pins σ H s1) (he : X.ex = []) {B h' : Heap} (b1 : B.StaysIn s1.heap) (b2 : B.StaysIn h')
    (sm : ∀ b o, s1.heap.get? b = some o → b ∈ X.fs → ∃ sl, h'.get? b = some { o with slots := sl }) (d1 : ∀ b o, X.s₀.heap.get? b = some o → b ∉ X.fs → ∃ o', B.get? b = some o') (d2 : ∀ b u, H b = some u → ∃ o', B.get? b = some o') :
    Un X.fs [] X.H₀ H X.s₀.heap h' ∧ HOk X.prog X.w H h' := by
  have same : ∀ b o, s1.heap.get? b = some o → (∃ o', B.get? b = some o') → h'.get? b = some o := fun b o e ⟨o', e'⟩ => by
    have z := b1 b o' e'
    rw [e] at z; cases z
    exact b2 b o e'
  have nx : ∀ b, b ∉ X.ex := fun b z => by rw [he] at z; cases z
  refine ⟨⟨fun b o q n hb _ => same b o (I.base.keep b o q n hb (nx b)) (d1 b o q hb), fun b o q n hb _ => ?_, fun b o q n _ => I.base.free b o q n (nx b), fun b o q _ => ?_, I.base.tups, I.base.frzs, I.base.tbls⟩, fun b u e => ?_⟩
  · obtain ⟨sl, e1⟩ := I.base.slot b o q n hb (nx b)
    obtain ⟨sl', e2⟩ := sm b _ e1 hb
    exact ⟨sl', e2⟩
  · obtain ⟨o1, e1⟩ := I.base.there b o q (nx b)
    by_cases hb : b ∈ X.fs
    · obtain ⟨sl, e2⟩ := sm b o1 e1 hb
      exact ⟨_, e2⟩
    · exact ⟨_, same b o1 e1 (d1 b o q hb)⟩
  · refine (I.hok b u e).stay (fun c v hc q => same c v q ?_) (fun _ q => q) fun _ _ q => q
    rcases hc with z | z
    · rw [z]; exact d2 b u e
    · exact d2 c _ z

theorem Inv.offStack {X : Cx} {pins : List (Addr × Obj)} {σ : St} {H : Hp} {s : Shared} (I : Inv X pins σ H s) {b : Addr} {o : Obj} (q : X.s₀.heap.get? b = some o) (hb : b ∉ X.fs) : b ∉ frs X.stack := fun z => by
  rcases List.mem_cons.mp (I.stkSub b z) with z | z
  · rw [z] at q
    exact absurd (Nat.lt_of_lt_of_le (Heap.lt_size q) I.ok.above) (Nat.lt_irrefl _)
  · exact hb z
theorem Inv.nonrec {X : Cx} {pins : List (Addr × Obj)} {σ : St} {H : Hp} {s : Shared} (I : Inv X pins σ H s) {b : Addr} {o : Obj} (q : s.heap.get? b = some o) (hb : b ∈ X.fs) : ∀ vs, o.data ≠ .fields vs := by
  obtain ⟨_, o', e, hd⟩ := I.funs.mem hb
  rw [q] at e; cases e; exact hd

section
variable {P : Program} {w : World} {K : PySem.W.Frag} {mg : Str → Option Value} {base : Heap} {N : List Str} {qual : Str} {scope : Scope} {f : Addr} {cd : Value} {A : Around} {outer : List Env} {s : Shared} {H : Hp} {E : XK}
theorem xp_def : Xp (cxOf (CXr P w) P w K mg base N qual scope f cd A outer s H E) E where
  own := PassesOwn.leaving
  pass := by
    intro pins σ H1 s1 e s' I h
    obtain ⟨ea, cls, a0, B, H', rfl, ho, hg, u, hok, fl, dm, tr, hE⟩ := h
    have I' := I.call' ho u hok hg (fun b hb => by cases hb)
    refine wpAny_leaves_onW I.ok.frames rfl fl fun h' fl' sm => ?_
    obtain ⟨un, hk⟩ := leave_un I' rfl fl.1 fl'.1 (fun b o q hb => sm b o q (I'.nonrec q hb)) (fun b o q hb => by
      obtain ⟨o1, e1⟩ := I.base.there b o q (fun z => by cases z)
      exact dm b o1 e1 (I.offStack q hb)) tr
    exact ⟨ea, cls, a0, B, H', rfl, I'.os, hg, un, hk, fl', fun b o q hb => by
      obtain ⟨o1, e1⟩ := I.base.there b o q (fun z => by cases z)
      exact dm b o1 e1 (I.offStack q hb), tr, hE⟩
theorem xm_def : Xm (cxOf (CXr P w) P w K mg base N qual scope f cd A outer s H E) E := by
  intro pins σ H1 s1 h' e cls args I mx hE
  have hkb : (PySem.W.hideAll s1.heap (frs (cxOf (CXr P w) P w K mg base N qual scope f cd A outer s H E).stack)).StaysIn s1.heap := fun b o q => PySem.W.of_hideAll _ q
  have dm : ∀ b o, (cxOf (CXr P w) P w K mg base N qual scope f cd A outer s H E).s₀.heap.get? b = some o → b ∉ (cxOf (CXr P w) P w K mg base N qual scope f cd A outer s H E).fs → ∃ o', (PySem.W.hideAll s1.heap (frs (cxOf (CXr P w) P w K mg base N qual scope f cd A outer s H E).stack)).get? b = some o' := fun b o q hb => by
    obtain ⟨o1, e1⟩ := I.base.there b o q (fun z => by cases z)
    exact ⟨o1, PySem.W.hideAll_get _ e1 (I.offStack q hb)⟩
  have tr : ∀ b u, H1 b = some u → ∃ o', (PySem.W.hideAll s1.heap (frs (cxOf (CXr P w) P w K mg base N qual scope f cd A outer s H E).stack)).get? b = some o' := fun b u q => by
    obtain ⟨o1, e1⟩ := (I.hok b u q).ex
    exact ⟨o1, PySem.W.hideAll_get _ e1 (fun z => by rw [I.stkFree b z] at q; cases q)⟩
  refine wpAny_leaves_madeW I.ok.frames rfl hkb (PySem.W.funFrames_hide I.stack fun env he a ha => List.mem_filterMap.mpr ⟨env, he, ha⟩) mx fun h2 t fl tup hn sm => ?_
  obtain ⟨un, hk⟩ := leave_un I rfl hkb fl.1 (fun b o q hb => sm b o (mx.keeps b o q) (I.nonrec q hb)) dm tr
  exact ⟨e, cls, .ref t, _, H1, rfl, I.os, I.bare, un, hk, fl, dm, tr, hE⟩
end

/-- THE RULE for a def that may raise -/
theorem Fun.okX {P : Program} {w : World} {K : PySem.W.Frag} {mg : Str → Option Value} {base : Heap} {x qual : Str} {st : Stmt} {f : Addr} {fd : FuncData} {N ps : List Str} {k : Nat} {sp : Sp} (F : Fun K x qual st f fd) (S : FnScope N ps (defScope st)) (len : ∀ vs H Q E, sp vs H Q E → vs.length = ps.length)
    (hbody : ∀ (cdv : Value) (A : Around) (outer : List Env) (s : Shared) (H : Hp) (vs : List V) (Q : VK) (E : XK), Room k (A.deeper (envOfC qual (defScope st) s.heap.objs.size f cdv)) → sp vs H Q E →
      ∃ t, PSs (cxOf (CXr P w) P w K mg base N qual (defScope st) f cdv A outer s H E) (defBody st) t ∧ t { nx := fun _ H' => Q .non H', rt := Q } (start N vs) H) :
    FnOk P w K mg base (CXr P w) (k + 1) f fd ps sp := by
  obtain ⟨oc, od, kV, doc, pm, an, cdv, ct, osl, rfl, lk, hcd⟩ := F.ex
  exact fn_of lk hcd S len fun A outer s H vs Q E hr h => hbody cdv A outer s H vs Q E hr h

/-! ### raise -/
abbrev bmV : List Value := [.type "ValueError", .type "Exception", .type "BaseException", .type "object"]
structure ExcCls (K : PySem.W.Frag) (x : Str) (C : Addr) : Prop where
  at_ : PySem.W.nsIn K mainGlobals x = some (some (.ref C))
  exc : PySem.W.excIn K C bmV "ValueError.__new__" = true
def keyStr (e : DictEntry) : Option Str := match e.key with
  | .str n _ => some n
  | _ => none
theorem nsFind_none {es : Array DictEntry} (hk : StrKeys es) {x : Str} (h : x ∉ es.toList.filterMap keyStr) : nsFind es x = none := by
  cases e : nsFind es x with
  | none => rfl
  | some v =>
    exfalso
    unfold nsFind findBy at e
    rw [Option.map_eq_some_iff] at e
    obtain ⟨d, hd, _⟩ := e
    have hm := Array.mem_of_find?_eq_some hd
    have hp := Array.find?_some hd
    obtain ⟨n, t, hn⟩ := hk d hm
    refine h (List.mem_filterMap.mpr ⟨d, by simpa using hm, ?_⟩)
    unfold keyStr
    rw [hn] at hp ⊢
    have hp : (Value.str n t).isStr x = true := hp
    simp [Value.isStr] at hp
    simp [hp]
theorem own_mod {K : PySem.W.Frag} {mg : Str → Option Value} {base : Heap} {x : Str} {C : Addr} (M : Mod K mg base) (O : ExcCls K x C) : OwnCls x C bmV "ValueError.__new__" mg base := by
  obtain ⟨mb, hb, hbb⟩ := M.blt
  obtain ⟨o, es, ep, ho, hd, hk, hf⟩ := id M.glob
  exact PySem.W.own_of_in (p := default) (loose := es.toList.filterMap keyStr) M.kin ⟨M.glob, hb, M.nolimit, hbb, fun y _ hl _ _ _ => by rw [← hf y]; exact nsFind_none hk hl⟩ O.at_ O.exc

def tRaise (E : XK) (C : Addr) (ta : TA) : TS := fun _ σ H => ta σ H fun vs H1 => vs.length ≤ sizeLine ∧ E (.ref C) none H1
theorem ps_raise {X : Cx} {E : XK} {x : Str} {C : Addr} {e : Expr} {es : List Expr} {ta : TA} {np cpos pos : Pos} (xm : Xm X E) (hc : X.calm = true) (hg : Gl X x) (hm : X.mg x = some (.ref C)) (O : ExcCls X.K x C) (ha : PA X (e :: es) ta)
    (hd : (x == ("__debug__" : Str)) = false := by decide) (he : starEach (e :: es) X.env = (false, eval e X.env) :: starEach es X.env := by rfl) (hpl : (backTo cpos (starEach es X.env)).any (·.1) = false := by rfl) :
    PS X (.Raise (some (.Call (.Name x np) (e :: es) [] cpos)) none pos) (tRaise E C ta) := by
  intro pins s σ H D I h
  obtain ⟨tl, Nn, nm, q, bs, hdct, sn, sub, ab, col, dd, k0, k1, k2, k3, k5, mN, hC, hN, hni, T⟩ := (own_mod I.mod O).obj
  refine wpAny_Raise_call_subT (C := C) (nm := nm) (q := q) (N := Nn) (bs := bs) (bm := tl) (hdct := hdct) (sn := sn) (sub := sub) (ab := ab) (col := col) (dd := dd) (k0 := k0) (k1 := k1) (k2 := k2) (k3 := k3) (k5 := k5)
    PySem.F.excBase_ValueError (mN := mN) (T.hasType PySem.F.excBase_ValueError.hasBase) (I.ok.hd hc) (by rw [he]; show (false || (backTo cpos (starEach es X.env)).any (·.1)) = false; rw [hpl]; rfl) hni (ld_glob I hg hm ⟨rfl, ?_⟩ hd)
  have hA := ha cpos pins s σ H _ I h
  rw [he] at hA ⊢
  refine Calls.evalArgs_plain (thn hA fun us s2 hh => ?_)
  obtain ⟨vs, H2, I2, rv, hl, hE⟩ := hh
  exact ⟨rfl, by rw [← rv.length]; exact hl, I2.bk _ _ hC, hN.keeps I2.bk, T.keeps I2.bk, fun h' ea mx => xm pins σ H2 s2 h' ea _ _ I2 mx hE⟩

/-! ### f-strings of written texts and small ints: some text -/
def PJ (X : Cx) (es : List Expr) (t : St → Hp → (Hp → Prop) → Prop) : Prop :=
  ∀ (out : Str) (pins : List (Addr × Obj)) (s : Shared) (σ : St) (H : Hp) (Q : VK), out.length + 1000 * es.length + 1 ≤ sizeLine → Inv X pins σ H s → t σ H (fun H' => ∀ x, Q (.str x) H') → wpAny (model X.prog X.w) X.A (joinParts out (evalEach es X.env)) (EP X pins σ Q) X.xe s
def jNil : St → Hp → (Hp → Prop) → Prop := fun _ H Q => Q H
def jStr (t : St → Hp → (Hp → Prop) → Prop) : St → Hp → (Hp → Prop) → Prop := t
def jInt (te : TE) (t : St → Hp → (Hp → Prop) → Prop) : St → Hp → (Hp → Prop) → Prop := fun σ H Q => te σ H fun x H1 => ∃ i : Int, x = .int i ∧ i.natAbs.log2 < 64 ∧ t σ H1 Q
def tJoined (t : St → Hp → (Hp → Prop) → Prop) : TE := fun σ H Q => t σ H fun H' => ∀ x, Q (.str x) H'
section
variable {X : Cx} {e : Expr} {es : List Expr} {te : TE} {t : St → Hp → (Hp → Prop) → Prop} {pos p1 p2 : Pos} {c : Str} {k : Nat}
theorem pj_nil : PJ X [] jNil := fun out pins s σ H Q hz I h => joinParts_nil ⟨.str out, H, I.tok _, ⟨_, rfl⟩, h out⟩ (by omega)
theorem pj_str (hr : PJ X es t) (hc : c.length ≤ 1000 := by decide) : PJ X (.Constant (.str c) k pos :: es) (jStr t) := by
  intro out pins s σ H Q hz I h
  refine joinParts_cons (Calls.Constant_str ?_)
  rw [List.length_cons] at hz
  have hl : (out ++ c).length = out.length + c.length := strLen_append ..
  exact ⟨by rw [hl]; omega, hr (out ++ c) pins _ σ H Q (by rw [hl]; omega) (I.tok _) h⟩
theorem pj_int (he : PE X e te) (hr : PJ X es t) : PJ X (.FormattedValue e (-1) none pos :: es) (jInt te t) := by
  intro out pins s σ H Q hz I h
  refine joinParts_cons (FormattedValue_plain (thn (he pins s σ H _ I h) fun v s1 hh => ?_))
  obtain ⟨x, H1, I1, r, i, rfl, hi, h1⟩ := hh
  obtain ⟨tk, rfl⟩ := r
  rw [List.length_cons] at hz
  refine formatField_int_small (Nat.lt_trans hi (by decide)) ?_
  have hl : (out ++ (Str.ofString (toString i))).length = out.length + (Str.ofString (toString i)).length := strLen_append ..
  have h2 := int_text_length_le (a := i) (k := 64) (by decide) hi
  have h3 : (Str.ofString (toString i)).length = (toString i).length := PySem.ofString_length _
  exact ⟨by rw [show (out ++ (toString i : Str)).length = _ from hl, h3]; omega, hr _ pins _ σ H1 Q (by rw [show (out ++ (toString i : Str)).length = _ from hl, h3]; omega) (I1.tok _) h1⟩
theorem pe_joined {v₁ v₂ : Expr} (h : PJ X (v₁ :: v₂ :: es) t) (hz : 1000 * (es.length + 2) + 1 ≤ sizeLine := by decide) : PE X (.JoinedStr (v₁ :: v₂ :: es) pos) (tJoined t) := by
  intro pins s σ H Q I hw
  exact JoinedStr_many (h Str.empty pins s σ H Q (by show 0 + 1000 * (es.length + 1 + 1) + 1 ≤ sizeLine; omega) I hw)
end
end L2
namespace L2
open PySem PySem.W PySem.Spec PyProof.Rows PySem.Calls
section
variable {prog : Program} {w : World} {A : Around} {E : Value → Shared → Prop} {h : Heap} {g : Array GenState} {d : Drawn} {t : Nat} {os : OsState} {a C : Addr} {o : Obj} {K : Frag}
  {nm q : Str} {N : Addr} {bs bm : List Value} {hdct : Bool} {sn : List Str} {sub : List Value} {ab : Bool} {col : Option Bool} {dd : Option Addr} {k0 k1 k2 k3 k5 : Option Value} {newId : String}
theorem xc_get {R : Result → Shared → Prop} {tp : Value} (hC : h.get? C = some (excClassObj nm q C N bs bm hdct sn sub ab col dd k0 k1 k2 k3 k5 newId)) (T : OwnTail h bmV bm) (hx : h.get? a = some o) (hc : o.cls = .ref C) (hq : R (.ok (.ret (.ref C))) ⟨h, g, d, t, os⟩) :
    codeAny (model prog w) A (.call (.builtin "getset_descriptor.__get__") ⟨[.builtin "object.__class__", .ref a, tp], []⟩) R ⟨h, g, d, t, os⟩ := by
  have ofObj : (Value.ref C :: bm).contains (.type (".".intercalate ("object.__class__".cutAt '.').dropLast)) = true := by
    rw [F.owner_object_class, List.contains_cons, T.hasType (b := true) (by decide +kernel)]; rfl
  have hT5 : (⟨h, g, d, t, os⟩ : Shared).TypeIs (.builtin "object.__class__") "getset_descriptor" := F.typeOf_object_class
  refine codeAny_call_builtin F.slot_gs_get.plain
    F.entry_gs_get (F.slot_gs_get.check _ _ _ _ _ _ _ _ hT5
      (F.args_gs_get _ _ _) ?_)
  repeat (any_goals (first | assumption | (with_reducible refine wpAny_loadPart_at hx ?_; rw [hc]) | (with_reducible refine wpAny_isSubtype_exc hC ?_; rw [ofObj]) | wp_step))
  refine ⟨Code.quiet_builtin _ (by decide +kernel), codeAny_builtin
    F.entry_object_class ?_⟩
  repeat (any_goals (first | assumption | (with_reducible refine wpAny_loadPart_at hx ?_; rw [hc]) | wp_step))
theorem xc_entry {tk : Tok} {Q : Fin → Shared → Prop} (X : K.In h) (e3 : findIn K (.ref C) "__class__" = some (some (.builtin "object.__class__"))) (hC : h.get? C = some (excClassObj nm q C N bs bm hdct sn sub ab col dd k0 k1 k2 k3 k5 newId)) (T : OwnTail h bmV bm) (hx : h.get? a = some o) (hc : o.cls = .ref C)
    (hq : Q (.done (.ret (.ref C))) ⟨h, g, d, t, os⟩) :
    wpAny (model prog w) A (Builtin.«object.__getattribute__» ⟨[.ref a, .str "__class__" tk], []⟩) Q E ⟨h, g, d, t, os⟩ := by
  have hT5 : (⟨h, g, d, t, os⟩ : Shared).TypeIs (.builtin "object.__class__") "getset_descriptor" := F.typeOf_object_class
  have f5 := F.typeOf_object_class
  have f6 := F.slot_gs_get.lookup
  have f7 := F.slot_gs_set.lookup
  have LC := looks_findIn (M := model prog w) X e3
  repeat (any_goals (first | assumption | (with_reducible refine wpAny_loadPart_at hx ?_; rw [hc]) | with_reducible refine Looks.at LC ?_ | wp_step))
  refine xc_get hC T hx hc ?_
  repeat (any_goals (first | assumption | wp_step))
theorem xc_check {M : Model} {nv : Value} {Q : Unit → Shared → Prop} (hC : h.get? C = some (excClassObj nm q C N bs bm hdct sn sub ab col dd k0 k1 k2 k3 k5 newId)) (T : OwnTail h bmV bm) (hx : h.get? a = some o) (hc : o.cls = .ref C)
    (hq : Q () ⟨h, g, d, t, os⟩) : wpAny M A (checkBuiltinCall "BaseException.__getattribute__" ⟨[.ref a, nv], []⟩) Q E ⟨h, g, d, t, os⟩ := by
  have kd : builtinKind "BaseException.__getattribute__" = some .slot := by decide +kernel
  have sp : splitId "BaseException.__getattribute__" = some ("BaseException", "__getattribute__") := by decide +kernel
  have isB : (Value.ref C :: bm).contains (.type "BaseException") = true := by
    rw [List.contains_cons, T.hasType (b := true) (by decide +kernel)]; rfl
  have ok := F.args_bexc_ga (.ref a) nv
  simp only [checkBuiltinCall, kd, sp]
  refine wpAny_bind ?_
  unfold isInstance
  repeat (first | (with_reducible refine wpAny_loadPart_at hx ?_; rw [hc]) | (with_reducible refine wpAny_isSubtype_exc hC ?_; rw [isB]) | wp_step)
  exact hq
theorem xc_by {tk : Tok} {Q : Value → Shared → Prop} (X : K.In h) (e1 : findIn K (.ref C) "__getattribute__" = some (some (.builtin "BaseException.__getattribute__"))) (e2 : findIn K (.ref C) "__getattr__" = some none)
    (e3 : findIn K (.ref C) "__class__" = some (some (.builtin "object.__class__"))) (hC : h.get? C = some (excClassObj nm q C N bs bm hdct sn sub ab col dd k0 k1 k2 k3 k5 newId)) (T : OwnTail h bmV bm) (hx : h.get? a = some o) (hc : o.cls = .ref C)
    (hq : Q (.ref C) ⟨h, g, d, t, os⟩) : wpAny (model prog w) A (getAttrBy (.ref a) (.str "__class__" tk) false) Q E ⟨h, g, d, t, os⟩ := by
  have LG := looks_findIn (M := model prog w) X e1
  have LN := looks_findIn (M := model prog w) X e2
  have f3 := PySem.F.attr_ValueError.ga.bind (.ref a)
  have nh : (onTheHeap (Value.ref C) && Value.builtin "BaseException.__getattribute__" == Value.builtin "object.__getattribute__") = false := by
    rw [show (Value.builtin "BaseException.__getattribute__" == Value.builtin "object.__getattribute__") = false from by decide +kernel, Bool.and_false]
  repeat (any_goals (first | assumption | (with_reducible refine wpAny_loadPart_at hx ?_; rw [hc]) | with_reducible refine Looks.at LG ?_ | with_reducible refine Looks.at LN ?_ | wp_step))
  refine codeAny_call_builtin PySem.F.attr_ValueError.ga.plain F.entry_bexc_ga (xc_check hC T hx hc (xc_entry X e3 hC T hx hc ?_))
  repeat (any_goals (first | assumption | wp_step))
theorem xc_attr {Q : Option Value → Shared → Prop} (X : K.In h) (e1 : findIn K (.ref C) "__getattribute__" = some (some (.builtin "BaseException.__getattribute__"))) (e2 : findIn K (.ref C) "__getattr__" = some none)
    (e3 : findIn K (.ref C) "__class__" = some (some (.builtin "object.__class__"))) (hC : h.get? C = some (excClassObj nm q C N bs bm hdct sn sub ab col dd k0 k1 k2 k3 k5 newId)) (T : OwnTail h bmV bm) (hx : h.get? a = some o) (hc : o.cls = .ref C)
    (hq : Q (some (.ref C)) ⟨h, g, d, t + 1, os⟩) : wpAny (model prog w) A (getAttr? (.ref a) "__class__") Q E ⟨h, g, d, t, os⟩ := by
  unfold getAttr? getAttrBy?
  repeat (any_goals (first | assumption | with_reducible apply xc_by X e1 e2 e3 hC T hx hc | wp_step))
end
/-- what the written part tells of an error class of the text's own -/
structure ExcK (K : Frag) (x : Str) (C : Addr) : Prop extends ExcCls K x C where
  e1 : findIn K (.ref C) "__getattribute__" = some (some (.builtin "BaseException.__getattribute__"))
  e2 : findIn K (.ref C) "__getattr__" = some none
  e3 : findIn K (.ref C) "__class__" = some (some (.builtin "object.__class__"))
  e4 : (clsIn K C).isSome = true
def ExcAt (ea C : Addr) : Heap → Prop := fun h => ∃ o vs, h.get? ea = some o ∧ o.cls = .ref C ∧ o.data = .fields vs
theorem kitx_exc {K : Frag} {mg : Str → Option Value} {base : Heap} {x : Str} {C ea : Addr} (M : Mod K mg base) (O : ExcK K x C) :
    KitX K (.ref ea) (.ref C) (fun h => ExcAt ea C h ∧ ∀ b o, base.get? b = some o → h.get? b = some o) where
  ty := fun _ h _ p => by
    obtain ⟨⟨o, vs, hx, hc, _⟩, _⟩ := p
    exact hc ▸ (Looks.ld hx).andThen .now
  it := fun _ h X _ => by
    have e := O.e4
    unfold clsIn at e
    split at e
    · rename_i c' d' cd' sl' ho
      intro A' Q' E' s' k q
      unfold isType loadHead
      exact wpAny_bind (wpAny_loadPart (k _ _ (X _ _ ho)) (wpAny_pure q))
    · cases e
  ne := fun h tp dd its n sl X htp => by
    refine Bool.eq_false_iff.mpr fun q => ?_
    have e := O.e4
    have z : C = tp := Value.ref.inj (beq_iff_eq.mp q)
    subst z
    unfold clsIn at e
    split at e
    · rename_i c' d' cd' sl' ho
      have z := (X _ _ ho).symm.trans htp
      cases z
    · cases e
  ca := fun {prog w A E Q s} X p k => by
    obtain ⟨hp, g, d, t, os⟩ := s
    obtain ⟨⟨o, vs, hx, hc, _⟩, kp⟩ := p
    obtain ⟨tl, Nn, nm, q, bs, hdct, sn, sub, ab, col, dd, k0, k1, k2, k3, k5, mN, hC, hN, hni, T⟩ := ((own_mod M O.toExcCls).keeps kp).obj
    exact xc_attr X O.e1 O.e2 O.e3 hC T hx hc k
end L2
namespace L2
open PySem PySem.Spec PyProof.Rows
structure RoomH (k : Nat) (A : Around) : Prop where
  dp : A.depth + 3 * k + 5 < recursionLimit
  un : A.units + 16 * k + 200 < cLine
theorem RoomH.deeper {k : Nat} {A : Around} (r : RoomH (k + 1) A) (env : Env) : RoomH k (A.deeper env) :=
  ⟨by have := r.dp; show A.depth + 1 + 3 * k + 5 < _; omega, by have := r.un; show A.units + 3 + 16 * k + 200 < _; omega⟩
theorem RoomH.depth {k : Nat} {A : Around} (r : RoomH k A) : A.depth < recursionLimit := by have := r.dp; omega
structure FnOkH (P : Program) (w : World) (K : PySem.W.Frag) (mg : Str → Option Value) (base : Heap) (CX : CXT) (k : Nat) (f : Addr) (fd : FuncData) (ps : List Str) (sp : Sp) : Prop where
  len : ∀ vs H Q E, sp vs H Q E → vs.length = ps.length
  run : ∀ (A : Around) (outer : List Env) (s : Shared) (H : Hp) (args : Args) (us : List Value) (vs : List V) (Q : VK) (E : XK), RoomH k A → Env0 P w K mg base A outer s H → BindsTo s fd args (ps.zip us) → Vals vs us → sp vs H Q E →
    codeAny (model P w) A (.call (.ref f) args) (CR CX outer P w H s Q E) s
section
variable {X : Cx} {CX : CXT} {k : Nat} {f C : Addr} {fd : FuncData} {ps : List Str} {sp : Sp} {dvs : List V} {ds : List Value} {E : XK} {x m : Str} {p pos apos : Pos} {e o : Expr} {es : List Expr} {ta : TE} {t : TA}
theorem run_fnH {pins : List (Addr × Obj)} {σ : St} {H : Hp} {s : Shared} {Q : VK} {us : List Value} {vs : List V} (F : FnOkH X.prog X.w X.K X.mg X.base CX k f fd ps sp) (hr : RoomH k X.A) (hb : Binds X.K fd ps ds) (hd : Vals dvs ds) (hx : Passes CX X E)
    (I : Inv X pins σ H s) (r : Vals vs us) (h : sp (vs ++ dvs) H Q E) : wpAny (model X.prog X.w) X.A (call (.ref f) us) (EP X pins σ Q) X.xe s := by
  have r2 : Vals (vs ++ dvs) (us ++ ds) := r.append hd
  have hl : (us ++ ds).length = ps.length := by rw [← r2.length]; exact F.len _ _ _ _ h
  refine wpAny_call (codeAny_mono (F.run X.A X.stack s H ⟨us, []⟩ (us ++ ds) (vs ++ dvs) Q E hr I.env0 (hb s us I.kIn hl) r2 h) fun r s' hq => ?_)
  cases r with
  | error e => exact hx pins σ H s e s' I hq
  | ok fl =>
    cases fl with
    | ret u => exact I.after hq
    | next => exact False.elim hq
    | brk => exact False.elim hq
    | cont => exact False.elim hq
theorem pe_callH (F : FnOkH X.prog X.w X.K X.mg X.base CX k f fd ps sp) (hr : RoomH k X.A) (hg : Gl X x) (hm : X.mg x = some (.ref f)) (hk : PySem.W.keepIn X.K (.ref f) = true) (hb : Binds X.K fd ps ds) (hd : Vals dvs ds) (hx : Passes CX X E)
    (ha : PA X (e :: es) t) (hdb : (x == ("__debug__" : Str)) = false := by decide) (he : starEach (e :: es) X.env = (false, eval e X.env) :: starEach es X.env := by rfl) (hpl : (backTo pos (starEach es X.env)).any (·.1) = false := by rfl) :
    PE X (.Call (.Name x p) (e :: es) [] pos) (tCall sp dvs E t) := by
  intro pins s σ H Q I h
  refine wpAny_Call_Name_kw (ld_glob I hg hm ?_ hdb)
  refine PySem.W.callWith_K (h₀ := X.base) I.ok.mod.kin hk (thn (ha pos pins s σ H _ I h) fun us s1 ⟨vs, H1, I1, r, q⟩ => ⟨I1.kIn, ?_⟩) he hpl
  exact run_fnH F hr hb hd hx I1 r q
end
def cxOfH (CX : CXT) (P : Program) (w : World) (K : PySem.W.Frag) (mg : Str → Option Value) (base : Heap) (N : List Str) (qual : Str) (scope : Scope) (f : Addr) (cd : Value) (A : Around) (outer : List Env) (s : Shared) (H : Hp) (E : XK) : Cx where
  prog := P
  w := w
  K := K
  mg := mg
  base := base
  A := A.deeper (envOfC qual scope s.heap.objs.size f cd)
  N := N
  s₀ := s
  H₀ := H
  env := envOfC qual scope s.heap.objs.size f cd
  outer := outer
  stack := envOfC qual scope s.heap.objs.size f cd :: outer
  ex := []
  calm := false
  fn := fun _ => true
  pn := []
  xe := fun e s' => wpAny (model P w) (A.deeper (envOfC qual scope s.heap.objs.size f cd)) (leaving (envOfC qual scope s.heap.objs.size f cd) e) (fun _ s'' => CX outer H s E e s'') (fun e' s'' => CX outer H s E e' s'') s'
theorem inv_startH {CX : CXT} {P : Program} {w : World} {K : PySem.W.Frag} {mg : Str → Option Value} {base : Heap} {N ps : List Str} {qual : Str} {scope : Scope} {f : Addr} {cd : Value} {A : Around} {outer : List Env} {s s1 : Shared} {H : Hp} {E : XK} {us : List Value} {vs : List V}
    (S : FnScope N ps scope) (e0 : Env0 P w K mg base A outer s H) (hl : vs.length = ps.length) (r : Vals vs us)
    (x : InCallC s s.heap.objs.size (bindL (envOfC qual scope s.heap.objs.size f cd).kindOf (ps.zip us) fun _ => none) (cellsFrom (s.heap.objs.size + 1) scope.names []) (bindC (envOfC qual scope s.heap.objs.size f cd).kindOf (ps.zip us) fun _ => none) s1) :
    Inv (cxOfH CX P w K mg base N qual scope f cd A outer s H E) [] (start N vs) H s1 := by
  have hpl : ps.length ≤ N.length := by have := congrArg List.length S.pre; rw [List.length_take] at this; omega
  obtain ⟨h1, tk, rfl, hk⟩ := x.done
  have noA : ∀ b : Addr, b ∉ (cxOfH CX P w K mg base N qual scope f cd A outer s H E).ex := fun b z => absurd (show b ∈ ([] : List Addr) from z) (by simp)
  refine ⟨⟨e0.mod, S.kind, rfl, rfl, Nat.le_refl _, fun y z c h1 h2 => ?_, fun y hy => ?_, fun y c _ h => ?_, fun z => (by cases z), Around.frames_deeper e0.frames, .inr ⟨rfl, rfl⟩, fun b z => absurd z (noA b), e0.bs, e0.bsz, fun b _ _ => noA b, fun b z => absurd z (noA b), e0.funs, e0.frf⟩,
    rfl, e0.bare, Un.kept hk, ⟨_, x.toInCall.ns, fun i y v h1 h2 h3 => ?_⟩, fun y c h => ⟨_, x.cell y c h⟩, e0.hok.fresh (Nat.le_refl _), fun y c h => ?_, fun p hp => absurd (show p ∈ ([] : List (Addr × Obj)) from hp) (by simp), e0.hok.kept hk, ?_⟩
  · exact name_of_addr x.apart (PySem.mem_of_lookup h1) (PySem.mem_of_lookup h2)
  · have hy : scope.names.lookup y = some .cell ∨ scope.names.lookup y = some .free := hy
    rcases hy with hy | hy
    · exact cell_has hy
    · exact absurd rfl (S.nofree _ (PySem.mem_of_lookup hy))
  · exact Nat.le_of_lt (x.above y c (PySem.mem_of_lookup h))
  · have hi : i < vs.length := by
      unfold start at h2
      by_cases hi : i < vs.length
      · exact hi
      · rw [List.getElem?_append_right (by simpa using hi)] at h2
        rw [List.getElem?_replicate] at h2
        split at h2 <;> cases h2
    have ha : vs[i]? = some v := by
      unfold start at h2
      rw [List.getElem?_append_left (by simpa using hi), List.getElem?_map] at h2
      cases e : vs[i]? with
      | none => rw [e] at h2; cases h2
      | some a => rw [e] at h2; cases h2; rfl
    obtain ⟨u, hu, rv⟩ := r.get ha
    have hp : ps[i]? = some y := by
      rw [← S.pre, List.getElem?_take_of_lt (by omega)]; exact h1
    have ndP : ps.Nodup := by rw [← S.pre]; exact S.nd.sublist (List.take_sublist _ _)
    refine ⟨u, rv, ?_⟩
    rcases S.par y (List.mem_of_getElem? hp) with k | k
    · exact .inl ⟨k, bindL_get ndP hp hu k⟩
    · obtain ⟨c, e⟩ := cell_has (n := s.heap.objs.size + 1) k
      refine .inr ⟨.inl k, c, e, ?_⟩
      have q := x.cell y c e
      rw [bindC_get ndP hp hu (by show scope.names.lookup y ≠ _; rw [k]; decide)] at q
      exact q
  · exact e0.hok.fresh (Nat.le_of_lt (x.above y c (PySem.mem_of_lookup h)))
  · unfold start
    show _ = N.length
    rw [List.length_append, List.length_map, List.length_replicate]
    omega
theorem fn_ofH {CX : CXT} {P : Program} {w : World} {K : PySem.W.Frag} {mg : Str → Option Value} {base : Heap} {k : Nat} {f : Addr} {name qual : Str} {params : Arguments} {body : List Stmt} {scope : Scope} {dV kV doc pm cdv ct oc : Value} {an od : Option Addr}
    {osl : Array (Option Value)} {N ps : List Str} {sp : Sp} (lk : K.lookup f = some ⟨oc, od, .func (PySem.W.fnOf name qual params body scope dV kV doc pm an cdv ct), osl⟩) (hcd : PySem.W.codeIn K cdv qual = true) (S : FnScope N ps scope)
    (len : ∀ vs H Q E, sp vs H Q E → vs.length = ps.length)
    (hbody : ∀ (A : Around) (outer : List Env) (s : Shared) (H : Hp) (vs : List V) (Q : VK) (E : XK), RoomH k (A.deeper (envOfC qual scope s.heap.objs.size f cdv)) → sp vs H Q E →
      ∃ t, PSs (cxOfH CX P w K mg base N qual scope f cdv A outer s H E) body t ∧ t { nx := fun _ H' => Q .non H', rt := Q } (start N vs) H) :
    FnOkH P w K mg base CX (k + 1) f (PySem.W.fnOf name qual params body scope dV kV doc pm an cdv ct) ps sp := by
  refine ⟨len, fun A outer s H args us vs Q E hr e0 hb r hsp => ?_⟩
  have hl := len _ _ _ _ hsp
  have KX : K.In s.heap := e0.mod.kin.keeps fun b o e => (e0.bs b o e).1
  have lim : s.heap.NoLimit := e0.mod.nolimit.keeps fun b o e => (e0.bs b o e).1
  have hkind : ∀ y ∈ ps.zip us, scope.names.lookup y.1 = some .local ∨ (scope.names.lookup y.1 = some .cell ∧ ((cellsFrom (s.heap.objs.size + 1) scope.names []).lookup y.1).isSome = true) := fun ⟨n, v⟩ hy => by
    rcases S.par n (List.of_mem_zip hy).1 with q | q
    · exact .inl q
    · exact .inr ⟨q, PySem.W.cellsFrom_some _ _ _ (.inl q)⟩
  refine codeAny_call_function hr.depth (KX _ _ lk) rfl S.co S.gen rfl (PySem.W.codeRec_of KX hcd) (hb _ _ _ _ ?_)
  refine wpAny_newFunctionEnv_cells S.kind hkind fun env he s1 x => ?_
  subst he
  refine ⟨lim.keeps x.toInCall.keep, codeAny_func ?_⟩
  obtain ⟨t, ht, hq⟩ := hbody A outer s H vs Q E (hr.deeper _) hsp
  have I : Inv (cxOfH CX P w K mg base N qual scope f cdv A outer s H E) [] (start N vs) H s1 := inv_startH S e0 hl r x
  refine wpAny_mono (ht [] s1 (start N vs) H _ I hq) (fun fl s' hs => ?_) fun e s' hs => hs
  have fin : ∀ {σ' : St} {H' : Hp} {v : V} {u : Value}, Inv (cxOfH CX P w K mg base N qual scope f cdv A outer s H E) [] σ' H' s' → RelV v u → Q v H' → CE outer P w H s Q u s' :=
    fun {σ' H' v u} J rv q => ⟨v, H', J.os, J.bare, J.base, J.hok, rv, q⟩
  cases fl with
  | ret u =>
    obtain ⟨v, σ', H', J, rv, q⟩ := hs
    exact fin J rv q
  | next =>
    obtain ⟨σ', H', J, q⟩ := hs
    exact fin (v := V.non) (u := Value.none) J rfl q
  | brk =>
    obtain ⟨_, _, _, q⟩ := hs
    exact False.elim q
  | cont =>
    obtain ⟨_, _, _, q⟩ := hs
    exact False.elim q
section
variable {P : Program} {w : World} {K : PySem.W.Frag} {mg : Str → Option Value} {base : Heap}
theorem Fun.okH {x qual : Str} {st : Stmt} {f : Addr} {fd : FuncData} {N ps : List Str} {k : Nat} {sp : Sp} (F : Fun K x qual st f fd) (S : FnScope N ps (defScope st)) (len : ∀ vs H Q E, sp vs H Q E → vs.length = ps.length)
    (hbody : ∀ (cdv : Value) (A : Around) (outer : List Env) (s : Shared) (H : Hp) (vs : List V) (Q : VK) (E : XK), RoomH k (A.deeper (envOfC qual (defScope st) s.heap.objs.size f cdv)) → sp vs H Q E →
      ∃ t, PSs (cxOfH CX0 P w K mg base N qual (defScope st) f cdv A outer s H E).nox (defBody st) t ∧ t { nx := fun _ H' => Q .non H', rt := Q } (start N vs) H) : FnOkH P w K mg base CX0 (k + 1) f fd ps sp := by
  obtain ⟨oc, od, kV, doc, pm, an, cdv, ct, osl, rfl, lk, hcd⟩ := F.ex
  refine fn_ofH lk hcd S len fun A outer s H vs Q E hr hsp => ?_
  obtain ⟨t, h, q⟩ := hbody cdv A outer s H vs Q E hr hsp
  exact ⟨t, h.nox, q⟩
end
end L2

/-! ### isinstance of a caught exception; try -/
namespace L2
open PySem PySem.Spec PyProof.Rows
theorem vals_refs : ∀ {cs : List Addr} {us : List Value}, Vals (cs.map V.ref) us → us = cs.map Value.ref
  | [], _, r => by cases r; rfl
  | c :: cs, _, r => by
    cases r with
    | cons r rr => cases r; rw [vals_refs rr]; rfl
section
variable {X : Cx} (K : PySem.W.Frag)
theorem call_isinstX (hK : X.K = K := by rfl) : CallR X (.builtin "isinstance") (fun xs H Q => ∃ (ea C : Addr) (x : Str) (c : V) (cv : Value) (b : Bool), xs = [.ref ea, c] ∧ H ea = some (.ext (ExcAt ea C)) ∧ ExcK K x C ∧ cvV c = some cv ∧ PySem.W.kitOne K (.ref C) cv = some b ∧ Q (.bl b) H) := by
  subst hK
  intro pins s σ H xs us Q I r h
  obtain ⟨ea, C, x, c, cv, b, rfl, he, O, hc, hk, q⟩ := h
  obtain ⟨u, w', rfl, r1, r2⟩ := vals2 r
  have e : w' = cv := by
    cases c with
    | ty n => have h1 : w' = Value.type n := r2; have h2 : some (Value.type n) = some cv := hc; cases h2; exact h1
    | ref a => have h1 : w' = Value.ref a := r2; have h2 : some (Value.ref a) = some cv := hc; cases h2; exact h1
    | non => cases hc
    | bl _ => cases hc
    | int _ => cases hc
    | str _ => cases hc
    | byt _ => cases hc
    | flt _ => cases hc
  subst e
  cases r1
  have φ : ExcAt ea C s.heap := (show ObjOk X.prog X.w H s.heap ea (.ext (ExcAt ea C)) from I.hok ea _ he).1
  exact PySem.W.kia_one (kitx_exc I.mod O) I.kIn ⟨φ, I.bk⟩ hk (fun z => nomatch z) fun tk => ⟨.bl b, H, I.tok tk, rfl, q⟩
theorem call_isinstXT (hK : X.K = K := by rfl) : CallR X (.builtin "isinstance") (fun xs H Q => ∃ (ea C : Addr) (x : Str) (tp : Addr) (cs : List Addr) (b : Bool), xs = [.ref ea, .ref tp] ∧ H ea = some (.ext (ExcAt ea C)) ∧ ExcK K x C ∧ H tp = some (.tup (cs.map V.ref)) ∧ PySem.W.kitAny K (.ref C) (cs.map Value.ref) = some b ∧ Q (.bl b) H) := by
  subst hK
  intro pins s σ H xs us Q I r h
  obtain ⟨ea, C, x, tp, cs, b, rfl, he, O, ht, hk, q⟩ := h
  obtain ⟨u, w', rfl, r1, r2⟩ := vals2 r
  cases r1
  cases r2
  have φ : ExcAt ea C s.heap := (show ObjOk X.prog X.w H s.heap ea (.ext (ExcAt ea C)) from I.hok ea _ he).1
  obtain ⟨_, its, rv, o, h1, h2, n, h3⟩ := (show ObjOk X.prog X.w H s.heap tp (.tup (cs.map V.ref)) from I.hok tp _ ht)
  have ei := vals_refs rv
  subst ei
  obtain ⟨cl, dd, dt, sl⟩ := o
  have h2 : cl = .type "tuple" := h2
  have h3 : dt = .seq (cs.map Value.ref).toArray n := h3
  subst h2 h3
  exact PySem.W.kia_tup (kitx_exc I.mod O) I.kIn ⟨φ, I.bk⟩ h1 hk (fun z => nomatch z) fun tk => ⟨.bl b, H, I.tok tk, rfl, q⟩
end

def wish2 (X : Cx) (xe : Value → Shared → Prop) (pn : List (Addr × Obj)) : Cx := { X with xe := xe, pn := pn }
def suiteX (X : Cx) (ea : Addr) (pn : List (Addr × Obj)) : Cx := { X with A := X.A.mark (some (.ref ea)), calm := false, xe := fun _ _ => False, pn := pn }
section
variable {X : Cx} {pins pins1 : List (Addr × Obj)} {σ : St} {H : Hp} {s : Shared} {xe : Value → Shared → Prop} {ea : Addr}
theorem Inv.toW (I : Inv X pins σ H s) : Inv (wish2 X xe (X.pn ++ pins)) [] σ H s :=
  ⟨⟨I.ok.mod, I.ok.kind, I.ok.glob, I.ok.blt, I.ok.above, I.ok.inj, I.ok.has, I.ok.cab, I.ok.hd, I.ok.frames, I.ok.stk, I.ok.exf, I.ok.bs, I.ok.bsz, I.ok.noex, I.ok.exfs, I.ok.funs, I.ok.frf⟩, I.os, I.bare, I.base, I.loc, I.cell, I.free, I.freeC,
    fun p hp => I.pin p (by have z : p ∈ (X.pn ++ pins) ++ [] := hp; simpa using z), I.hok, I.len⟩
theorem Inv.ofW (I : Inv (wish2 X xe (X.pn ++ pins)) pins1 σ H s) : Inv X pins σ H s :=
  ⟨⟨I.ok.mod, I.ok.kind, I.ok.glob, I.ok.blt, I.ok.above, I.ok.inj, I.ok.has, I.ok.cab, I.ok.hd, I.ok.frames, I.ok.stk, I.ok.exf, I.ok.bs, I.ok.bsz, I.ok.noex, I.ok.exfs, I.ok.funs, I.ok.frf⟩, I.os, I.bare, I.base, I.loc, I.cell, I.free, I.freeC,
    fun p hp => I.pin p (List.mem_append_left _ hp), I.hok, I.len⟩
theorem Inv.toS (I : Inv X pins σ H s) : Inv (suiteX X ea (X.pn ++ pins)) [] σ H s :=
  ⟨⟨I.ok.mod, I.ok.kind, I.ok.glob, I.ok.blt, I.ok.above, I.ok.inj, I.ok.has, I.ok.cab, fun z => (by cases z), I.ok.frames, I.ok.stk, I.ok.exf, I.ok.bs, I.ok.bsz, I.ok.noex, I.ok.exfs, I.ok.funs, I.ok.frf⟩, I.os, I.bare, I.base, I.loc, I.cell, I.free, I.freeC,
    fun p hp => I.pin p (by have z : p ∈ (X.pn ++ pins) ++ [] := hp; simpa using z), I.hok, I.len⟩
theorem Inv.ofS (hd : X.calm = true → X.A.handled = none) (fr : X.A.frames = some X.stack) (I : Inv (suiteX X ea (X.pn ++ pins)) pins1 σ H s) : Inv X pins σ H s :=
  ⟨⟨I.ok.mod, I.ok.kind, I.ok.glob, I.ok.blt, I.ok.above, I.ok.inj, I.ok.has, I.ok.cab, hd, fr, I.ok.stk, I.ok.exf, I.ok.bs, I.ok.bsz, I.ok.noex, I.ok.exfs, I.ok.funs, I.ok.frf⟩, I.os, I.bare, I.base, I.loc, I.cell, I.free, I.freeC,
    fun p hp => I.pin p (List.mem_append_left _ hp), I.hok, I.len⟩

/-- over a call that ended in an exception, and what the machine did to the frames since -/
theorem fly_un {H' : Hp} {s' : Shared} {B h5 : Heap} (I : Inv X pins σ H s) (u : Un (frs X.stack) [] H H' s.heap s'.heap) (hok : HOk X.prog X.w H' s'.heap) (b1 : B.StaysIn s'.heap) (b2 : B.StaysIn h5) (sm : s'.heap.UpToSlots h5)
    (dm : ∀ b o, s.heap.get? b = some o → b ∉ frs X.stack → ∃ o', B.get? b = some o') (tr : ∀ b u, H' b = some u → ∃ o', B.get? b = some o') : Un (frs X.stack) [] H H' s.heap h5 ∧ HOk X.prog X.w H' h5 := by
  have same : ∀ b o, s'.heap.get? b = some o → (∃ o', B.get? b = some o') → h5.get? b = some o := fun b o e ⟨o', e'⟩ => by
    have z := b1 b o' e'
    rw [e] at z; cases z
    exact b2 b o e'
  have fr : ∀ b o, s.heap.get? b = some o → b ∈ frs X.stack → ∃ sl, h5.get? b = some { o with slots := sl } := fun b o q hb => by
    obtain ⟨sl, e1⟩ := u.slot b o q (I.stkFree b hb) hb (by simp)
    obtain ⟨_, o', e', hd⟩ := I.stack.mem hb
    rw [q] at e'; cases e'
    obtain ⟨sl', e2⟩ := sm b _ e1 hd
    exact ⟨sl', e2⟩
  refine ⟨⟨fun b o q n hb hx => same b o (u.keep b o q n hb hx) (dm b o q hb), fun b o q n hb _ => fr b o q hb, fun b o q n hx => u.free b o q n hx, fun b o q hx => ?_, u.tups, u.frzs, u.tbls⟩, fun b v e => ?_⟩
  · by_cases hb : b ∈ frs X.stack
    · obtain ⟨sl, e2⟩ := fr b o q hb
      exact ⟨_, e2⟩
    · obtain ⟨o1, e1⟩ := u.there b o q hx
      exact ⟨_, same b o1 e1 (dm b o q hb)⟩
  · refine (hok b v e).stay (fun c v hc q => same c v q ?_) (fun _ q => q) fun _ _ q => q
    rcases hc with z | z
    · rw [z]; exact tr b _ e
    · exact tr c _ z

/-- a local name is let go -/
theorem Inv.goes {i : Nat} {n : Str} {m : Str → Option Value} {h' : Heap} {v : Option Value} {t' : Nat} (I : Inv X pins σ H s) (hN : X.N.Nodup) (hi : X.N[i]? = some n)
    (hm : ∀ (j : Nat) (x : Str) (v : V), X.N[j]? = some x → σ[j]? = some (some v) → Vis X.env.scope x → ∃ u, RelV v u ∧ Look X.env s.heap m x u)
    (hn' : h'.Ns X.env.locals (fun x => if x = n then v else m x)) (hs : Heap.SameBut X.env.locals s.heap h') : Inv X pins (σ.set i none) H { s with heap := h', toks := t' } := by
  have keep : ∀ b o, b ≠ X.env.locals → s.heap.get? b = some o → h'.get? b = some o := fun b o hb e => (hs.2 b hb).trans e
  have neL : ∀ b o, X.s₀.heap.get? b = some o → b ≠ X.env.locals := fun b o e => Nat.ne_of_lt (Nat.lt_of_lt_of_le (Heap.lt_size e) I.ok.above)
  refine ⟨I.ok, I.os, I.bare, ⟨fun b o e q hb hx => keep b o (neL b o e) (I.base.keep b o e q hb hx), fun b o e q hb hx => ?_, I.base.free, fun b o e hx => ?_, I.base.tups, I.base.frzs, I.base.tbls⟩, ⟨_, hn', fun j y w' e1 e2 e3 => ?_⟩, fun y c e => ?_, I.free, I.freeC, fun p hp => ?_, fun b ob e => ?_, by simpa using I.len⟩
  · obtain ⟨sl, e1⟩ := I.base.slot b o e q hb hx
    exact ⟨sl, keep b _ (neL b o e) e1⟩
  · obtain ⟨o', e1⟩ := I.base.there b o e hx
    exact ⟨o', keep b _ (neL b o e) e1⟩
  · by_cases hj : i = j
    · subst hj
      rw [List.getElem?_set] at e2
      simp only [if_true] at e2
      split at e2 <;> cases e2
    · rw [List.getElem?_set_ne hj] at e2
      have hy : y ≠ n := fun z => hj (nodup_ix hN hi (z ▸ e1))
      obtain ⟨u, r, l⟩ := hm j y w' e1 e2 e3
      refine ⟨u, r, ?_⟩
      rcases l with ⟨k, q⟩ | ⟨k, c, q, z⟩
      · exact .inl ⟨k, by dsimp only; rw [if_neg hy]; exact q⟩
      · obtain ⟨oc, hoc, hcd⟩ := z
        exact .inr ⟨k, c, q, oc, keep c oc (I.cne y c q) hoc, hcd⟩
  · obtain ⟨v', oc, hoc, hcd⟩ := I.cell y c e
    exact ⟨v', oc, keep c oc (I.cne y c e) hoc, hcd⟩
  · obtain ⟨e, q, ne, nf, d⟩ := I.pin p hp
    exact ⟨keep p.1 p.2 ne e, q, ne, nf, d⟩
  · refine (I.hok b ob e).stay (fun c w' hc q => keep c w' (fun z => ?_) q) (fun _ q => q) fun _ _ q => q
    have hf := I.free
    rcases hc with z' | z'
    · rw [← z', z] at e; rw [hf] at e; cases e
    · rw [z, hf] at z'; cases z'
end

def suiteEnds (i : Nat) (D : Ends) : Ends := ⟨fun σ' H2 => D.nx (σ'.set i none) H2, D.rt, fun σ' H2 => D.bk (σ'.set i none) H2, fun σ' H2 => D.ct (σ'.set i none) H2⟩
def tTry (n : Nat) (tb : XK → TS) (C : Addr) (i : Nat) (ts : TS) : TS := fun D σ H =>
  tb (fun cls _ H' => cls = .ref C ∧ ∀ ea, H' ea = none → ts (suiteEnds i D) ((List.replicate n none).set i (some (.ref ea))) (upd H' ea (.ext (ExcAt ea C)))) D σ H

theorem ps_try {X : Cx} {body : List Stmt} {b₀ : Stmt} {suite : List Stmt} {x n : Str} {i : Nat} {C : Addr} {np hpos pos : Pos} {tb : XK → TS} {ts : TS} (hstk : X.stack = X.env :: X.outer) (hfr : X.env.frame = some X.env.locals)
    (hg : Gl X x) (hm : X.mg x = some (.ref C)) (O : ExcK X.K x C) (hN : X.N.Nodup) (hi : X.N[i]? = some n) (hl : X.env.scope.names.lookup n = some .local)
    (hb : ∀ (E : XK) (xe : Value → Shared → Prop) (pn : List (Addr × Obj)), Xp (wish2 X xe pn) E → PSs (wish2 X xe pn) body (tb E))
    (hs : ∀ (ea : Addr) (pn : List (Addr × Obj)), PSs (suiteX X ea pn) (b₀ :: suite) ts) (hd : (x == ("__debug__" : Str)) = false := by decide) :
    PS X (.Try body [.ExceptHandler (some (.Name x np)) (some n) (b₀ :: suite) hpos] [] [] pos) (tTry X.N.length tb C i ts) := by
  intro pins s σ H D I h
  refine wpAny_Try_except (wpAny_mono (hb _ (fun e s₁ => wpAny (model X.prog X.w) X.A (noteFrame e X.env) (fun _ s₂ => wpAny (model X.prog X.w) X.A (setFlight e none) (fun _ s₃ =>
      wpAny (model X.prog X.w) X.A (handleBy e X.env [.ExceptHandler (some (.Name x np)) (some n) (b₀ :: suite) hpos]) (SP X pins D) X.xe s₃) X.xe s₂) X.xe s₁) (X.pn ++ pins) ⟨?pass, PassesOwn.looking⟩ [] s σ H D I.toW h) (fun f s1 q => ?_) fun e s1 q => q)
  case pass =>
    intro pins1 σ1 H1 s1 e s' I1 hx
    obtain ⟨ea, cls, a0, B, H', rfl, ho, hgn, u, hok, fl, dm, tr, hcls, hts⟩ := hx
    subst hcls
    have IX : Inv X pins σ1 H1 s1 := I1.ofW
    have u : Un (frs X.stack) [] H1 H' s1.heap s'.heap := u
    have fl : Heap.FlyingW B X.stack ea (.ref C) a0 s'.heap := fl
    have dm : ∀ b o, s1.heap.get? b = some o → b ∉ frs X.stack → ∃ o', B.get? b = some o' := dm
    have heaH : H' ea = none := by
      cases e : H' ea with
      | none => rfl
      | some w' => obtain ⟨o', z⟩ := tr ea w' e; rw [fl.2.1] at z; cases z
    have hea1 : s1.heap.get? ea = none := by
      cases e : s1.heap.get? ea with
      | none => rfl
      | some w' =>
        exfalso
        by_cases hb : ea ∈ frs X.stack
        · obtain ⟨sl, e1⟩ := u.slot ea w' e (IX.stkFree ea hb) hb (by simp)
          obtain ⟨_, o', e', hdn⟩ := IX.stack.mem hb
          rw [e] at e'; cases e'
          obtain ⟨_, _, _, oe, vs, _, _, _, he, _, hdt, _⟩ := fl
          rw [e1] at he; cases he
          exact hdn vs hdt
        · obtain ⟨o', z⟩ := dm ea w' e hb; rw [fl.2.1] at z; cases z
    have fl0 := fl
    rw [hstk] at fl
    refine wpAny_looks_onW (by rw [← hstk]; exact I.ok.frames) hfr fl fun h4 held sm4 => ?_
    refine wpAny_landsW held fun h5 fl5 sm5 => ?_
    obtain ⟨u5, ok5⟩ := fly_un IX u hok fl0.1 fl5.1 (sm4.trans sm5) dm tr
    have I5 : Inv X pins σ1 H' { s' with heap := h5 } := IX.call' (s' := { s' with heap := h5 }) ho u5 ok5 hgn (fun b hb => by cases hb)
    have J5 : Inv (suiteX X ea (X.pn ++ pins)) [] σ1 H' { s' with heap := h5 } := I5.toS
    refine wpAny_handleBy_cons (codeAny_handlers_test (ld_glob J5 hg hm ?_ hd)) (by intro q; cases q)
    obtain ⟨tl, Nn, nm, q, bs, hdct, sn, sub, ab, col, dd, k0, k1, k2, k3, k5, mN, hC, hNn, hni, T⟩ := ((own_mod I5.mod O.toExcCls).keeps I5.bk).obj
    obtain ⟨ob, hob, hobc⟩ := fl5.there
    obtain ⟨hp', g', d', t', os'⟩ := s'
    refine wpAny_excMatches_sub_self hC hob hobc (T.hasType (b := true) (by decide +kernel)) (codeAny_handlers_suite_as ?_)
    refine lands_againW fl5 fun h6 fl6 sm6 => ?_
    obtain ⟨u6, ok6⟩ := fly_un IX u hok fl0.1 fl6.1 ((sm4.trans sm5).trans sm6) dm tr
    have φ : ExcAt ea C h6 := by
      obtain ⟨_, _, _, oe, vs, _, _, _, he, hcl, hdt, _⟩ := fl6
      exact ⟨oe, vs, he, hcl.1, hdt⟩
    have nea : ∀ b o, s1.heap.get? b = some o → b ≠ ea := fun b o e z => by rw [z, hea1] at e; cases e
    have u7 : Un (frs X.stack) [] H1 (upd H' ea (.ext (ExcAt ea C))) s1.heap h6 :=
      ⟨u6.keep, u6.slot, fun b o e n hx => by rw [upd_ne (nea b o e)]; exact u6.free b o e n hx, u6.there, fun b xs e => by rw [upd_ne (ne_of_none (u6.tups b xs e) heaH)]; exact u6.tups b xs e,
        fun b o xs e => by rw [upd_ne (ne_of_none (u6.frzs b o xs e) heaH)]; exact u6.frzs b o xs e, fun b ps e => by obtain ⟨mr, z⟩ := u6.tbls b ps e; exact ⟨mr, by rw [upd_ne (ne_of_none z heaH)]; exact z⟩⟩
    have ok7 : HOk X.prog X.w (upd H' ea (.ext (ExcAt ea C))) h6 := fun b v e => by
      by_cases hb : b = ea
      · subst hb; rw [upd_same] at e; cases e
        obtain ⟨o, vs, z1, z2, z3⟩ := id φ
        exact ⟨φ, ⟨o, z1⟩, fun h1 h2 ⟨o', vs', y1, y2, y3⟩ k => ⟨o', vs', k o' y1, y2, y3⟩⟩
      · rw [upd_ne hb] at e
        exact (ok6 b v e).stay (fun _ _ _ q => q) (fun c q => by rw [upd_ne (ne_of_none q heaH)]; exact q) fun c xs q => by rw [upd_ne (ne_of_none q heaH)]; exact q
    have I7 : Inv X pins σ1 (upd H' ea (.ext (ExcAt ea C))) ⟨h6, g', d', t', os'⟩ := IX.call' (s' := ⟨h6, g', d', t', os'⟩) ho u7 ok7 hgn (fun b hb => by cases hb)
    have I8 : Inv X pins (List.replicate X.N.length none) (upd H' ea (.ext (ExcAt ea C))) ⟨h6, g', d', t', os'⟩ := I7.weak (by rw [List.length_replicate, I7.len]) fun j v e => by
      rw [List.getElem?_replicate] at e
      split at e <;> cases e
    have J8 : Inv (suiteX X ea (X.pn ++ pins)) [] (List.replicate X.N.length none) (upd H' ea (.ext (ExcAt ea C))) ⟨h6, g', d', t', os'⟩ := I8.toS
    refine store_ok (X := suiteX X ea (X.pn ++ pins)) (v := .ref ea) J8 hN hi (.inl hl) rfl (fun s9 J9 => ?_) (.inr hl)
    refine wpAny_mono (hs ea (X.pn ++ pins) [] s9 _ _ _ J9 (hts ea heaH)) (fun f s10 q10 => ?_) (fun _ _ z => z.elim)
    have done : ∀ {σ' : St} {Hn : Hp}, Inv (suiteX X ea (X.pn ++ pins)) [] σ' Hn s10 → (∀ s11, Inv X pins (σ'.set i none) Hn s11 → SP X pins D f s11) → wpAny (model X.prog X.w) X.A (do bindName X.env n .none; unbindBehindTheSuite X.env n hpos) (fun _ s₃ => SP X pins D f s₃) X.xe s10 := fun {σ' Hn} J k => by
      have IJ : Inv X pins σ' Hn s10 := J.ofS I.ok.hd I.ok.frames
      obtain ⟨m, hnm, hlm⟩ := id IJ.loc
      exact wpAny_nameGoes_keeps hl hnm (by rw [I.ok.kind]; rfl) fun h' v hn' hs' => k _ (IJ.goes hN hi hlm hn' hs')
    cases f with
    | next => obtain ⟨σ', Hn, J, q⟩ := q10; exact done J fun s11 I11 => ⟨_, Hn, I11, q⟩
    | brk => obtain ⟨σ', Hn, J, q⟩ := q10; exact done J fun s11 I11 => ⟨_, Hn, I11, q⟩
    | cont => obtain ⟨σ', Hn, J, q⟩ := q10; exact done J fun s11 I11 => ⟨_, Hn, I11, q⟩
    | ret v => obtain ⟨y, σ', Hn, J, r, q⟩ := q10; exact done J fun s11 I11 => ⟨y, _, Hn, I11, r, q⟩
  · cases f with
    | next => obtain ⟨σ', Hn, J, q⟩ := q; exact wpAny_execs_nil ⟨σ', Hn, J.ofW, q⟩
    | brk => obtain ⟨σ', Hn, J, q⟩ := q; exact ⟨σ', Hn, J.ofW, q⟩
    | cont => obtain ⟨σ', Hn, J, q⟩ := q; exact ⟨σ', Hn, J.ofW, q⟩
    | ret v => obtain ⟨y, σ', Hn, J, r, q⟩ := q; exact ⟨y, σ', Hn, J.ofW, r, q⟩
end L2
/-! ### list.insert; facts of error classes; small helpers -/
namespace L2
open PySem PySem.Spec PyProof.Rows
section
variable {X : Cx}
def rInsert : V → List V → Hp → VK → Prop := fun x vs H Q => ∃ l xs i y, x = .ref l ∧ vs = [.int i, y] ∧ H l = some (.lst xs) ∧ 0 ≤ i ∧ i ≤ xs.length ∧ xs.length < sizeLine ∧ Q .non (upd H l (.lst (xs.take i.toNat ++ [y] ++ xs.drop i.toNat)))
end
theorem pass0X {P : Program} {w : World} {X : Cx} : Passes (CXr P w) X E0 := fun _ _ _ _ _ _ _ h => by
  obtain ⟨_, _, _, _, _, _, _, _, _, _, _, _, _, z⟩ := h
  exact z.elim
theorem roomH {k j : Nat} {A : Around} {h : Option Value} (r : Room k A) (hj : j ≤ k) : RoomH j (A.mark h) := ⟨by have := r.dp; show A.depth + 3 * j + 5 < _; omega, by have := r.un; show A.units + 16 * j + 200 < _; omega⟩
section
variable {K : PySem.W.Frag} {C C' : Addr} {b : Bool}
theorem kit_sub (hne : C ≠ C') (c1 : PySem.W.isClsIn K C' = true) (c2 : PySem.W.typeIn K (.ref C') = some (.type "type")) (m : PySem.W.mroIn K C (.ref C') = some b) : PySem.W.kitOne K (.ref C) (.ref C') = some b := by
  unfold PySem.W.kitOne PySem.W.kitCls
  rw [if_neg (fun z => hne (Value.ref.inj (beq_iff_eq.mp z)))]
  dsimp only
  have c1 : (PySem.W.clsIn K C').isSome = true := c1
  rw [c1, c2, if_pos (by decide +kernel)]
  exact m
theorem ne_mro (h1 : PySem.W.mroIn K C (.ref C) = some true) (h2 : PySem.W.mroIn K C (.ref C') = some false) : C ≠ C' := fun z => by rw [← z, h1] at h2; cases h2
theorem kit_val (m : PySem.W.mroIn K C (.type "ValueError") = some true) : PySem.W.kitOne K (.ref C) (.type "ValueError") = some true := by
  unfold PySem.W.kitOne PySem.W.kitCls
  rw [if_neg (by intro z; cases beq_iff_eq.mp z)]
  dsimp only
  rw [if_pos (by decide +kernel)]
  exact m
end
section
variable {E : XK} {C : Addr} {ta : TA} {D : Ends} {σ : St} {H : Hp} {Q : VK} {te : TE} {t : St → Hp → (Hp → Prop) → Prop} {R : Hp → Prop} {n i : Nat} {tb : XK → TS} {ts : TS}
theorem r_raise (h : ta σ H fun vs H1 => vs.length ≤ sizeLine ∧ E (.ref C) none H1) : tRaise E C ta D σ H := h
theorem r_joined (h : t σ H fun H' => ∀ x, Q (.str x) H') : tJoined t σ H Q := h
theorem r_jstr (h : t σ H R) : jStr t σ H R := h
theorem r_jnil (h : R H) : jNil σ H R := h
theorem r_jint (h : te σ H fun x H1 => ∃ i : Int, x = .int i ∧ i.natAbs.log2 < 64 ∧ t σ H1 R) : jInt te t σ H R := h
theorem r_try (h : tb (fun cls _ H' => cls = .ref C ∧ ∀ ea, H' ea = none → ts (suiteEnds i D) ((List.replicate n none).set i (some (.ref ea))) (upd H' ea (.ext (ExcAt ea C)))) D σ H) : tTry n tb C i ts D σ H := h
end
theorem r_snx {D : Ends} {i : Nat} {σ : St} {H : Hp} (h : D.nx (σ.set i none) H) : (suiteEnds i D).nx σ H := h
theorem small_log {i : Int} (h0 : -1000000 ≤ i) (h1 : i ≤ 1000000) : i.natAbs.log2 < 64 := by
  by_cases hz : i.natAbs = 0
  · rw [hz]; decide
  · rw [Nat.log2_lt hz]
    have : i.natAbs ≤ 1000000 := by omega
    omega
end L2
/-! ### > of two int lists; list(d), list(d.values()) -/
namespace L2
open PySem PySem.Spec PyProof.Rows
open PySem.AutoSeq1 (wpAny_loadPart')
open PySem.MeetsSeq PySem.MeetsSeq2 PySem.MeetsSeq3 PySem.SeqAt
def lexGt : List Int → List Int → Bool
  | [], _ => false
  | _ :: _, [] => true
  | a :: r, b :: t => if a = b then lexGt r t else decide (b < a)
section
variable {X : Cx} (K : PySem.W.Frag)
end

theorem vals_of : ∀ {xs : List V} {us : List Value}, xs.length = us.length → (∀ (j : Nat) (u : Value), us[j]? = some u → ∃ x, xs[j]? = some x ∧ RelV x u) → Vals xs us
  | [], [], _, _ => .nil
  | x :: xs, u :: us, hl, h => by
    obtain ⟨y, e, r⟩ := h 0 u rfl
    cases e
    exact .cons r (vals_of (by simpa using hl) fun j u e => h (j + 1) u e)
  | [], _ :: _, hl, _ => by simp at hl
  | _ :: _, [], hl, _ => by simp at hl
theorem Same.upd_fresh {H H' : Hp} {b : Addr} {o : HO} (h : Same H H') (hb : H b = Option.none) : Same H (upd H' b o) := fun c u e => by
  rw [upd_ne (ne_of_none e hb)]; exact h c u e
theorem Room.units1 {k : Nat} {A : Around} (r : Room k A) : A.units + 1 < cLine := by have := r.units; omega
def ViewAt (v d : Addr) : Heap → Prop := fun h => h.IsValuesView v d
section
variable {X : Cx}
def rValues : V → List V → Hp → VK → Prop := fun x vs H Q => ∃ d kvs, x = .ref d ∧ vs = [] ∧ H d = some (.dK kvs) ∧ ∀ v, H v = none → Q (.ref v) (upd H v (.ext (ViewAt v d)))
end
section
variable {X : Cx} (K : PySem.W.Frag)
end
section
variable {σ : St} {H : Hp} {Q : VK} {to td ty tv te : TE} {D : Ends} {trs : List (TE × TE)} {K : PySem.W.Frag} {T : String} {r : V → List V → Hp → VK → Prop}
theorem r_dnotin (h : ty σ H fun y H1 => td σ H1 fun x H2 => ∃ a o, x = .ref a ∧ DGet H2 a y o ∧ Q (.bl (!o.isSome)) H2) : tDNotIn ty td σ H Q := h
theorem r_dput (h : tv σ H fun v H1 => td σ H1 fun x H2 => ty σ H2 fun y H3 => ∃ a H4, x = .ref a ∧ DPut H3 a y v H4 ∧ D.nx σ H4) : sDPut td ty tv D σ H := h
end
end L2
/-! ### breadth first: the least words -/
namespace My
open PySem L2
def later (a b : List Int) : Bool := if a.length ≠ b.length then decide (a.length > b.length) else lexGt a b
def slt (a b : List Int) : Prop := later b a = true
theorem lexGt_snoc : ∀ {a b : List Int} {x y : Int}, a.length = b.length → lexGt a b = true → lexGt (a ++ [x]) (b ++ [y]) = true
  | [], [], _, _, _, h => by simp [lexGt] at h
  | a :: r, b :: t, x, y, hl, h => by
    simp only [List.cons_append, lexGt] at h ⊢
    by_cases e : a = b
    · rw [if_pos e] at h ⊢; exact lexGt_snoc (by simpa using hl) h
    · rw [if_neg e] at h ⊢; exact h
  | [], _ :: _, _, _, hl, _ => by simp at hl
  | _ :: _, [], _, _, hl, _ => by simp at hl
theorem lexGt_last : ∀ {a : List Int} {x y : Int}, y < x → lexGt (a ++ [x]) (a ++ [y]) = true
  | [], x, y, h => by simp only [List.nil_append, lexGt]; rw [if_neg (by omega)]; simpa using h
  | a :: r, x, y, h => by rw [List.cons_append, List.cons_append]; unfold lexGt; rw [if_pos rfl]; exact lexGt_last h
theorem lexGt_irrefl : ∀ a : List Int, lexGt a a = false
  | [] => rfl
  | a :: r => by unfold lexGt; rw [if_pos rfl]; exact lexGt_irrefl r
theorem later_irrefl (a : List Int) : later a a = false := by unfold later; rw [if_neg (by simp)]; exact lexGt_irrefl a
theorem slt_nil (u : List Int) (x : Int) : slt [] (u ++ [x]) := by
  unfold slt later; rw [if_pos (by simp)]; simp
theorem slt_snoc {u v : List Int} (h : slt u v) (x y : Int) : slt (u ++ [x]) (v ++ [y]) := by
  unfold slt later at h ⊢
  by_cases e : v.length = u.length
  · rw [if_neg (by simp [e])] at h; rw [if_neg (by simp [e])]; exact lexGt_snoc e h
  · rw [if_pos e] at h; rw [if_pos (by simp [e])]; have := of_decide_eq_true h; simp; omega
theorem slt_last (u : List Int) {x y : Int} (h : x < y) : slt (u ++ [x]) (u ++ [y]) := by
  unfold slt later; rw [if_neg (by simp)]; exact lexGt_last h
abbrev Ent := Int × List Int
structure BI (d : Int) (rss : List (List Int)) (at' j : Nat) (L : List Ent) : Prop where
  head : L[0]? = some (0, [])
  ok : ∀ e ∈ L, WordOk d e.2 ∧ walkI rss 0 e.2 = e.1
  nd : (L.map Prod.fst).Nodup
  par : ∀ (k : Nat) (e : Ent), L[k]? = some e → k = 0 ∨ ∃ (p : Nat) (q : Ent) (x : Nat), p < k ∧ L[p]? = some q ∧ e.2 = q.2 ++ [(x : Int)] ∧ (p < at' ∨ (p = at' ∧ x < j))
  inc : ∀ (i k : Nat) (e f : Ent), i < k → L[i]? = some e → L[k]? = some f → slt e.2 f.2
  cov : ∀ (p : Nat) (q : Ent) (x : Nat), L[p]? = some q → (x : Int) < d → (p < at' ∨ (p = at' ∧ x < j)) → ∃ e ∈ L, e.1 = walkI rss 0 (q.2 ++ [(x : Int)]) ∧ (e.2 = q.2 ++ [(x : Int)] ∨ slt e.2 (q.2 ++ [(x : Int)]))
def hasKey (L : List Ent) (r : Int) : Bool := L.any fun e => decide (e.1 = r)
def addDoor (L : List Ent) (w : List Int) (j : Nat) (r : Int) : List Ent := if hasKey L r = true then L else L ++ [(r, w ++ [(j : Int)])]
theorem nodup_le : ∀ (n : Nat) (l : List Nat), l.Nodup → (∀ x ∈ l, x < n) → l.length ≤ n
  | 0, l, _, h => by
    cases l with
    | nil => simp
    | cons a r => exact absurd (h a List.mem_cons_self) (Nat.not_lt_zero _)
  | n + 1, l, hn, h => by
    by_cases hm : n ∈ l
    · have h1 := nodup_le n (l.erase n) (hn.erase n) fun x hx => by
        have h2 := (hn.mem_erase_iff.mp hx)
        have := h x h2.2
        have := h2.1
        omega
      rw [List.length_erase_of_mem hm] at h1
      omega
    · have := nodup_le n l hn fun x hx => by
        have h1 := h x hx
        have h2 : x ≠ n := fun z => hm (z ▸ hx)
        omega
      omega
/-- the doors of one room -/
def rowK (L : List Ent) (w : List Int) (row : List Int) : Nat → List Ent
  | 0 => L
  | j + 1 => addDoor (rowK L w row j) w j (row.getD j 0)
def bfsAt (rss : List (List Int)) (L : List Ent) (k : Nat) : List Ent := match L[k]? with
  | none => L
  | some e => rowK L e.2 (rss.getD e.1.toNat []) (rss.getD e.1.toNat []).length
def bfsK (rss : List (List Int)) : Nat → List Ent
  | 0 => [(0, [])]
  | k + 1 => bfsAt rss (bfsK rss k) k
def bfs (rss : List (List Int)) : List Ent := bfsK rss rss.length
/-- all that the least words keep -/
structure Least (d : Int) (rss : List (List Int)) (L : List Ent) : Prop where
  bi : BI d rss L.length 0 L
end My
/-! ### list comprehensions whose block has cells of its own -/
namespace L2
open PySem PySem.Spec PyProof.Rows
theorem cells_app : ∀ (names : List (Str × NameKind)) (n : Nat) (acc : List (Str × Addr)), cellsFrom n names acc = cellsFrom n names [] ++ acc
  | [], _, _ => rfl
  | (x, k) :: r, n, acc => by
    unfold cellsFrom
    split
    · rw [cells_app r (n + 1) ((x, n) :: acc), cells_app r (n + 1) [(x, n)], List.append_assoc]; rfl
    · exact cells_app r n acc
theorem cells_mem : ∀ {names : List (Str × NameKind)} {n : Nat} {x : Str} {c : Addr}, (x, c) ∈ cellsFrom n names [] → (x, NameKind.cell) ∈ names
  | [], _, _, _, h => by simp [cellsFrom] at h
  | (y, k) :: r, n, x, c, h => by
    unfold cellsFrom at h
    split at h
    · rename_i hk
      rw [cells_app] at h
      rcases List.mem_append.mp h with h | h
      · exact List.mem_cons_of_mem _ (cells_mem h)
      · have e := List.mem_singleton.mp h
        cases e
        rw [beq_iff_eq.mp hk]; exact List.mem_cons_self
    · exact List.mem_cons_of_mem _ (cells_mem h)
theorem lookup_app {l r : List (Str × Addr)} {x : Str} {c : Addr} (h : (l ++ r).lookup x = some c) : l.lookup x = some c ∨ (l.lookup x = none ∧ r.lookup x = some c) := by
  induction l with
  | nil => exact .inr ⟨rfl, h⟩
  | cons p l ih =>
    obtain ⟨y, d⟩ := p
    rw [List.cons_append, List.lookup_cons] at h
    rw [List.lookup_cons]
    cases hb : x == y with
    | true => rw [hb] at h; exact .inl h
    | false => rw [hb] at h; exact ih h
theorem lookup_app_l {l r : List (Str × Addr)} {x : Str} {c : Addr} (h : l.lookup x = some c) : (l ++ r).lookup x = some c := by
  induction l with
  | nil => cases h
  | cons p l ih =>
    obtain ⟨y, d⟩ := p
    rw [List.cons_append, List.lookup_cons]
    rw [List.lookup_cons] at h
    cases hb : x == y with
    | true => rw [hb] at h; exact h
    | false => rw [hb] at h; exact ih h
theorem lookup_app_r {l r : List (Str × Addr)} {x : Str} (h : l.lookup x = none) : (l ++ r).lookup x = r.lookup x := by
  induction l with
  | nil => rfl
  | cons p l ih =>
    obtain ⟨y, d⟩ := p
    rw [List.cons_append, List.lookup_cons]
    rw [List.lookup_cons] at h
    cases hb : x == y with
    | true => rw [hb] at h; cases h
    | false => rw [hb] at h; exact ih h
theorem newEnv_some {M : Model} {A : Around} {E : Value → Shared → Prop} {s : Shared} {scope : Scope} {globals : Addr} {cl : List (Str × Addr)} {qual : Str} {env : Env} {Q : Env → Shared → Prop}
    (h : Q { scope := scope, locals := s.heap.objs.size, globals := globals, cells := cellsFrom (s.heap.objs.size + 1) scope.names cl, qual := qual, func := none, code := env.code, frame := env.frame, builtins := env.builtins }
      { s with heap := pushCells (s.heap.push { cls := .type "dict", data := .dict #[] }) scope.names }) : wpAny M A (newFunctionEnv scope globals cl [] qual none .none (some env)) Q E s := by
  simp only [newFunctionEnv, Option.isSome_some, if_true]
  refine wpAny_bind (wpAny_alloc ?_)
  refine wpAny_bind (wpAny_layCells _ (fun name kind cells => by cases hkc : kind == NameKind.cell <;> simp [hkc]) _ _ _ _ ?_)
  rw [show ({ s with heap := s.heap.push { cls := .type "dict", data := .dict #[] } } : Shared).heap.objs.size = s.heap.objs.size + 1 from Heap.size_push ..]
  exact wpAny_bind (wpAny_pure (wpAny_pure h))
def blkC (X : Cx) (N' : List Str) (scope : Scope) (cl : List (Str × Addr)) (C : Addr) (s : Shared) (H : Hp) (ex : List Addr) (pins : List (Addr × Obj)) : Cx :=
  { blk X N' scope cl C s H ex pins with fn := fun x => scope.names.lookup x == some NameKind.cell }
structure BlkScopeC (N : List Str) (sc0 sc : Scope) (N' : List Str) (caps : List (Option Nat)) : Prop where
  kind : sc.kind = .function
  names : ∀ x ∈ sc.names, x.2 = .local → sc.names.lookup x.1 = some .local
  cells : ∀ x ∈ sc.names, x.2 = .cell → sc.names.lookup x.1 = some .cell
  freeL : ∀ x ∈ sc.names, x.2 = .free → sc.names.lookup x.1 = some .free
  frees : ∀ x ∈ sc.names, x.2 = .free → sc0.names.lookup x.1 = some .cell ∨ sc0.names.lookup x.1 = some .free
  len : caps.length = N'.length
  cap : ((N'.zip caps).all (capOk N sc)) = true
  nd : N'.Nodup
/-- the block's cells: those of the closure, and new ones behind C -/
structure ClC (X : Cx) (scope : Scope) (cl : List (Str × Addr)) (C : Addr) (h₁ : Heap) : Prop where
  inj : ∀ x y c, cl.lookup x = some c → cl.lookup y = some c → x = y
  split : ∀ x c, cl.lookup x = some c → X.env.cells.lookup x = some c ∨ (C < c ∧ h₁.IsCell c none)
  frees : ∀ x ∈ scope.names, x.2 = .free → ∃ c, cl.lookup x.1 = some c ∧ X.env.cells.lookup x.1 = some c
  own : ∀ x, scope.names.lookup x = some .cell → ∃ c, cl.lookup x = some c ∧ C < c
theorem clc_of {X : Cx} {pins : List (Addr × Obj)} {s : Shared} {σ : St} {H : Hp} {N : List Str} {sc0 scope : Scope} {N' : List Str} {caps : List (Option Nat)} {cl : List (Str × Addr)} {P2 : Heap} (I : Inv X pins σ H s) (S : BlkScopeC N sc0 scope N' caps)
    (hcl1 : ∀ x c, cl.lookup x = some c → X.env.cells.lookup x = some c) (hcl2 : ∀ x ∈ scope.names, x.2 = .free → ∃ c, cl.lookup x.1 = some c) (hC : s.heap.objs.size ≤ P2.objs.size) :
    ClC X scope (cellsFrom (P2.objs.size + 1) scope.names cl) P2.objs.size (pushCells (P2.push { cls := .type "dict", data := .dict #[] }) scope.names) := by
  have ok := cellsFrom_ok scope.names (P2.push { cls := .type "dict", data := .dict #[] }) (P2.objs.size + 1) [] ⟨fun _ _ hm => (nomatch hm), List.Pairwise.nil⟩ (by rw [Heap.size_push]; exact Nat.le_refl _)
  rw [Heap.size_push] at ok
  rw [cells_app]
  have oldlt : ∀ x c, cl.lookup x = some c → c < P2.objs.size := fun x c h => by
    obtain ⟨v, z⟩ := I.cell x c (hcl1 x c h)
    exact Nat.lt_of_lt_of_le z.lt hC
  have newge : ∀ x c, (cellsFrom (P2.objs.size + 1) scope.names []).lookup x = some c → P2.objs.size < c := fun x c h => (ok.empty x c (mem_of_lookup h)).2
  refine ⟨fun x y c hx hy => ?_, fun x c hx => ?_, fun x hx hf => ?_, fun x hx => ?_⟩
  · rcases lookup_app hx with h1 | ⟨_, h1⟩ <;> rcases lookup_app hy with h2 | ⟨_, h2⟩
    · exact name_of_addr ok.apart (mem_of_lookup h1) (mem_of_lookup h2)
    · exact absurd (Nat.lt_trans (newge x c h1) (oldlt y c h2)) (Nat.lt_irrefl _)
    · exact absurd (Nat.lt_trans (newge y c h2) (oldlt x c h1)) (Nat.lt_irrefl _)
    · exact I.ok.inj x y c (hcl1 x c h1) (hcl1 y c h2)
  · rcases lookup_app hx with h1 | ⟨_, h1⟩
    · exact .inr ⟨newge x c h1, (ok.empty x c (mem_of_lookup h1)).1⟩
    · exact .inl (hcl1 x c h1)
  · obtain ⟨c, hc⟩ := hcl2 x hx hf
    refine ⟨c, ?_, hcl1 _ c hc⟩
    rw [lookup_app_r, hc]
    cases e : (cellsFrom (P2.objs.size + 1) scope.names []).lookup x.1 with
    | none => rfl
    | some d =>
      have h1 := S.cells _ (cells_mem (mem_of_lookup e)) rfl
      have h2 := S.freeL x hx hf
      rw [show scope.names.lookup x.1 = some NameKind.cell from h1] at h2
      cases h2
  · obtain ⟨c, hc⟩ := Option.isSome_iff_exists.mp (PySem.W.cellsFrom_some scope.names (P2.objs.size + 1) [] (.inl hx))
    exact ⟨c, lookup_app_l hc, newge x c hc⟩
section
variable {X : Cx} {pins : List (Addr × Obj)} {σ : St} {H : Hp} {s : Shared} {scope : Scope} {cl : List (Str × Addr)} {C : Addr} {N' : List Str} {ex : List Addr} {caps : List (Option Nat)}
theorem blkC_ok {h₁ : Heap} (I : Inv X pins σ H s) (S : BlkScopeC X.N X.env.scope scope N' caps) (K : ClC X scope cl C h₁)
    (hC : s.heap.objs.size ≤ C) (hf : ∀ b ∈ ex, FpOk X pins H b) (hex : ∀ b ∈ ex, b < s.heap.objs.size) : (blkC X N' scope cl C s H ex pins).Ok where
  mod := I.ok.mod
  kind := S.kind
  glob := I.ok.glob
  blt := I.ok.blt
  above := hC
  inj := K.inj
  has := fun x hx => by
    have hx' : (relS scope X.env.scope).names.lookup x = some .cell ∨ (relS scope X.env.scope).names.lookup x = some .free := hx
    have fin : ∀ k, (k = NameKind.cell ∨ k = NameKind.free) → (relS scope X.env.scope).names.lookup x = some k → ∃ c, cl.lookup x = some c := fun k hk hl => by
      obtain ⟨y, hy, e1, e2⟩ := lookup_relS (fun z => by obtain ⟨n, k⟩ := z; dsimp only; split <;> rfl) hl
      obtain ⟨n, k0⟩ := y
      have e1 : n = x := e1
      subst e1
      have hfree : k0 = .free ∨ k0 = .cell := by
        dsimp only at e2
        split at e2
        · rename_i hcond
          simp only [Bool.and_eq_true, beq_iff_eq] at hcond
          exact .inl hcond.1.1
        · have e2 : k0 = k := e2
          rcases hk with rfl | rfl
          · exact .inr e2
          · exact .inl e2
      rcases hfree with rfl | rfl
      · obtain ⟨c, hc, _⟩ := K.frees _ hy rfl
        exact ⟨c, hc⟩
      · obtain ⟨c, hc, _⟩ := K.own n (S.cells _ hy rfl)
        exact ⟨c, hc⟩
    rcases hx' with h | h
    · exact fin _ (.inl rfl) h
    · exact fin _ (.inr rfl) h
  cab := fun x c h hl => by
    have h : (scope.names.lookup x == some NameKind.cell) = true := h
    obtain ⟨c', hc', hlt⟩ := K.own x (beq_iff_eq.mp h)
    have hl : cl.lookup x = some c := hl
    rw [hc'] at hl; cases hl
    exact Nat.le_trans hC (Nat.le_of_lt hlt)
  hd := I.ok.hd
  frames := I.ok.frames
  stk := .inl rfl
  exf := fun b hb => ⟨Nat.ne_of_lt (Nat.lt_of_lt_of_le (hex b hb) hC), fun x c hc => by
    rcases K.split x c hc with h | ⟨h, _⟩
    · exact (hf b hb).2.2.2.2.1 x c h
    · exact Nat.ne_of_gt (Nat.lt_trans (Nat.lt_of_lt_of_le (hex b hb) hC) h)⟩
  bs := I.bs
  bsz := Nat.le_trans I.ok.bsz I.sz
  noex := fun b o e hb => by
    rcases (hf b hb).2.2.2.1 with z | z
    · exact I.ok.noex b o e z
    · exact absurd (Nat.lt_of_lt_of_le (Heap.lt_size (I.ok.bs b o e).1) z) (Nat.lt_irrefl _)
  exfs := fun b hb hm => by
    rcases List.mem_cons.mp (I.stkSub b hm) with z | z
    · exact (hf b hb).2.1 z
    · exact (hf b hb).2.2.1 z
  funs := I.stack
  frf := I.stkFree

theorem blkC_inv {acc n t' : Nat} {h₁ : Heap} {m : Str → Option Value} (I : Inv X pins σ H s) (S : BlkScopeC X.N X.env.scope scope N' caps) (K : ClC X scope cl C h₁)
    (hC : s.heap.objs.size ≤ C) (hf : ∀ b ∈ ex, FpOk X pins H b) (hex : ∀ b ∈ ex, b < s.heap.objs.size) (hns : h₁.Ns C m) (old : ∀ b o, s.heap.get? b = some o → h₁.get? b = some o)
    (hacc : h₁.get? acc = some { cls := .type "list", data := .seq #[] n }) (hge : s.heap.objs.size ≤ acc) (hne : acc ≠ C) (hlt : acc < C) :
    Inv (blkC X N' scope cl C s H ex pins) [] (capσ caps σ) (upd H acc (.lst [])) { s with heap := h₁, toks := t' } where
  ok := blkC_ok I S K hC hf hex
  os := rfl
  bare := I.bare
  base := Un.laid old hge (I.hok.fresh hge)
  loc := ⟨m, hns, fun i x v e1 e2 e3 => by
    obtain ⟨j, hj, hv⟩ := capσ_get e2
    have hz : (x, some j) ∈ N'.zip caps := by
      have : (N'.zip caps)[i]? = some (x, some j) := by rw [List.getElem?_zip_eq_some]; exact ⟨e1, hj⟩
      exact List.mem_of_getElem? this
    have hk := List.all_eq_true.mp S.cap _ hz
    simp only [capOk, Bool.and_eq_true, beq_iff_eq] at hk
    obtain ⟨hN, hfr⟩ := hk
    have hmem : (x, NameKind.free) ∈ scope.names := by
      have e : ∀ {l : List (Str × NameKind)}, l.lookup x = some .free → (x, NameKind.free) ∈ l := fun {l} => mem_of_lookup
      exact e hfr
    have h0 := S.frees _ hmem rfl
    obtain ⟨m0, hn0, hl⟩ := I.loc
    obtain ⟨u, r, l⟩ := hl j x v hN hv (by
      rcases h0 with h0 | h0
      · exact .inr (.inl h0)
      · exact .inr (.inr h0))
    refine ⟨u, r, ?_⟩
    have hcase : ∃ c, X.env.cells.lookup x = some c ∧ s.heap.IsCell c (some u) := by
      rcases l with ⟨hk, _⟩ | ⟨_, c, hc, hcell⟩
      · have hk' : X.env.scope.names.lookup x = some .local := hk
        rcases h0 with h0 | h0 <;> (rw [h0] at hk'; cases hk')
      · exact ⟨c, hc, hcell⟩
    obtain ⟨c, hc, hcell⟩ := hcase
    obtain ⟨c', hc', ec⟩ := K.frees _ hmem rfl
    have ec : X.env.cells.lookup x = some c' := ec
    rw [hc] at ec
    cases ec
    refine .inr ⟨?_, c, hc', hcell.keeps old⟩
    have e3' : Vis (relS scope X.env.scope) x := e3
    rcases e3' with h | h | h
    · exfalso
      obtain ⟨y, hy, q1, q2⟩ := lookup_relS (fun z => by obtain ⟨n, k⟩ := z; dsimp only; split <;> rfl) h
      obtain ⟨nn, k0⟩ := y
      have q1 : nn = x := q1
      subst q1
      dsimp only at q2
      split at q2
      · cases q2
      · have q2 : k0 = .local := q2
        subst q2
        have := S.names _ hy rfl
        have this : scope.names.lookup nn = some .local := this
        rw [hfr] at this; cases this
    · exact .inl h
    · exact .inr h⟩
  cell := fun x c e => by
    rcases K.split x c e with h | ⟨_, h⟩
    · obtain ⟨v, z⟩ := I.cell x c h
      exact ⟨v, z.keeps old⟩
    · exact ⟨_, h⟩
  free := by
    show upd H acc (.lst []) C = none
    rw [upd_ne (Ne.symm hne)]; exact I.hok.fresh hC
  freeC := fun x c e => by
    rcases K.split x c e with h | ⟨h, _⟩
    · obtain ⟨v, z⟩ := I.cell x c h
      have hl : c ≠ acc := Nat.ne_of_lt (Nat.lt_of_lt_of_le z.lt hge)
      rw [upd_ne hl]; exact I.freeC x c h
    · rw [upd_ne (Nat.ne_of_gt (Nat.lt_trans hlt h))]; exact I.hok.fresh (Nat.le_trans hC (Nat.le_of_lt h))
  pin := fun p hp => by
    have hp' : p ∈ X.pn ++ pins := by
      have : p ∈ (X.pn ++ pins) ++ [] := hp
      simpa using this
    obtain ⟨e, n, ne, nf, d⟩ := I.pin p hp'
    have hlt := Heap.lt_size e
    refine ⟨old _ _ e, ?_, Nat.ne_of_lt (Nat.lt_of_lt_of_le hlt hC), fun z => ?_, d⟩
    · rw [upd_ne (Nat.ne_of_lt (Nat.lt_of_lt_of_le hlt hge))]; exact n
    · rcases List.mem_cons.mp (I.stkSub _ z) with z | z
      · exact ne z
      · exact nf z
  hok := I.hok.laid old hge ⟨Nat.zero_le _, [], n, .nil, hacc⟩
  len := by
    show (capσ caps σ).length = N'.length
    unfold capσ; rw [List.length_map]; exact S.len
theorem blkC_back {H' : Hp} {s' : Shared} {σ' : St} {pins' : List (Addr × Obj)} (I : Inv X pins σ H s) (J : Inv (blkC X N' scope cl C s H ex pins) pins' σ' H' s') (hf : ∀ b ∈ ex, FpOk X pins H b) : Inv X pins σ H' s' :=
  I.call' (ch := ex) J.os J.base J.hok J.bare fun b hb => by
    obtain ⟨_, f1, _, f3, f4, f5⟩ := hf b hb
    exact ⟨f3, f1, f4, f5⟩
end
section
variable {X : Cx} {scope : Scope} {N' : List Str} {caps : List (Option Nat)} {elt iter tg : Expr} {pos : Pos} {wi : TI} {g : TG} {te : TE}
theorem comp_coreC {pins : List (Addr × Obj)} {s : Shared} {σ : St} {H : Hp} {cl : List (Str × Addr)} {Q : VK} {E : Value → Shared → Prop} {RR : Value → Addr → Result → Shared → Prop} {it : Addr} {fp : List Addr} {tn : Nat → Heap → Prop} {J : It} (hc : X.calm = true) (S : BlkScopeC X.N X.env.scope scope N' caps)
    (hg : ∀ cl C s H ex pins, PG (blkC X N' scope cl C s H ex pins) tg g) (he : ∀ cl C s H ex pins, PE (blkC X N' scope cl C s H ex pins) elt te)
    (hcl1 : ∀ x c, cl.lookup x = some c → X.env.cells.lookup x = some c) (hcl2 : ∀ x ∈ scope.names, x.2 = .free → ∃ c, cl.lookup x.1 = some c)
    (I : Inv X pins σ H s) (T : Turn X.prog X.w X.K tg J fp it tn) (st : tn 0 s.heap) (f2 : ∀ b ∈ fp, FpOk X pins H b) (R : CompR caps g te σ Q J H)
    (hRR : ∀ acc C H' s' m, s.heap.objs.size ≤ C → s'.heap.Ns C m → Inv X pins σ H' s' → H' C = none → Q (.ref acc) H' → RR (.ref acc) C (.ok .next) s') :
    wpAny (model X.prog X.w) X.A (newList []) (fun acc s₃ => wpAny (model X.prog X.w) X.A (newFunctionEnv scope X.env.globals cl [] X.env.qual none .none (some X.env)) (fun cenv s₄ =>
      codeAny (model X.prog X.w) X.A (.compStart (.ListComp elt [⟨tg, iter, [], 0⟩] scope pos) 0 (.ref it) acc { cenv with scope := relabel scope X.env }) (RR acc cenv.locals) s₄) E s₃) E s := by
  refine wpAny_newObj_type (newEnv_some ?_)
  dsimp only
  generalize hP2 : s.heap.push { cls := .type "list", dict := none, data := .seq ([] : List Value).toArray } = P2
  have hC : P2.objs.size = s.heap.objs.size + 1 := by rw [← hP2, Heap.size_push]
  have hDC : s.heap.objs.size ≠ P2.objs.size := by rw [hC]; exact Nat.ne_of_lt (Nat.lt_succ_self _)
  have hCle : s.heap.objs.size ≤ P2.objs.size := by rw [hC]; exact Nat.le_succ _
  have K := clc_of I S hcl1 hcl2 hCle
  have hns₁ : (pushCells (P2.push { cls := .type "dict", data := .dict #[] }) scope.names).Ns P2.objs.size (fun _ => none) := (Heap.Ns.new P2 (.type "dict")).keeps (pushCells_keeps _ _)
  have old : ∀ b o, s.heap.get? b = some o → (pushCells (P2.push { cls := .type "dict", data := .dict #[] }) scope.names).get? b = some o := fun b o e => pushCells_keeps _ _ _ _ (Heap.get?_push_of_some _ (hP2 ▸ Heap.get?_push_of_some _ e))
  have hacc : (pushCells (P2.push { cls := .type "dict", data := .dict #[] }) scope.names).get? s.heap.objs.size = some { cls := .type "list", data := .seq #[] } := pushCells_keeps _ _ _ _ (Heap.get?_push_of_some _ (hP2 ▸ Heap.get?_push_size _ rfl))
  generalize hh₁ : pushCells (P2.push { cls := .type "dict", data := .dict #[] }) scope.names = h₁ at K hns₁ old hacc ⊢
  generalize hcl' : cellsFrom (P2.objs.size + 1) scope.names cl = cl' at K ⊢
  have hex : ∀ b ∈ fp, b < s.heap.objs.size := fun b hb => by obtain ⟨o, e, _⟩ := T.obj 0 _ st b hb; exact Heap.lt_size e
  obtain ⟨W, ⟨m0, w0⟩, turn⟩ := R s.heap.objs.size (I.hok.fresh (Nat.le_refl _))
  have I3 : ∀ t', Inv (blkC X N' scope cl' P2.objs.size s H fp pins) [] (capσ caps σ) (upd H s.heap.objs.size (.lst [])) { s with heap := h₁, toks := t' } := fun t' => blkC_inv (t' := t') I S K hCle f2 hex hns₁ old hacc (Nat.le_refl _) hDC (by rw [hC]; exact Nat.lt_succ_self _)
  have stat : ∀ {H' : Hp}, (∀ b ∈ fp, H' b = none) → ∀ b ∈ fp, FpOk (blkC X N' scope cl' P2.objs.size s H fp pins) [] H' b := fun hn b hb => by
    obtain ⟨_, q1, q2, q3, q4, q5⟩ := f2 b hb
    refine ⟨hn b hb, Nat.ne_of_lt (Nat.lt_of_lt_of_le (hex b hb) hCle), fun z => ?_, .inl hb, fun x c e => (by
      rcases K.split x c e with h | ⟨h, _⟩
      · exact q4 x c h
      · exact Nat.ne_of_gt (Nat.lt_trans (Nat.lt_of_lt_of_le (hex b hb) hCle) h)), fun p hp => q5 p ?_⟩
    · rcases List.mem_cons.mp (I.stkSub b z) with z | z
      · exact q1 z
      · exact q2 z
    · have : p ∈ (X.pn ++ pins) ++ [] := hp
      simpa using this
  have loop : ∀ s₃ : Shared, s₃ = { s with heap := h₁ } →
      codeAny (model X.prog X.w) X.A (.compLoop (.ListComp elt [⟨tg, iter, [], 0⟩] scope pos) 0 (.ref it) (.ref s.heap.objs.size) (compEnvC scope cl' P2.objs.size X.env)) (RR (.ref s.heap.objs.size) P2.objs.size) s₃ := by
    rintro s₃ rfl
    refine codeAny_compLoop_gen (fun n s' => ∃ i ys H', Inv (blkC X N' scope cl' P2.objs.size s H fp pins) [] (capσ caps σ) H' s' ∧ tn i s'.heap ∧ (∀ b ∈ fp, H' b = none) ∧ W i n ys H') ?_ m0
      ⟨0, [], _, I3 _, T.keep 0 _ _ st (fun b _ o e => old b o e), fun b hb => by rw [upd_ne (Nat.ne_of_lt (hex b hb))]; exact (f2 b hb).1, w0⟩
    rintro n s4 ⟨i, ys, H4, I4, st4, fr4, w4⟩
    rcases turn i n ys H4 w4 with ⟨stop, q⟩ | ⟨go, N, hN, step⟩
    · refine thn (T.done (blkC X N' scope cl' P2.objs.size s H fp pins) rfl rfl rfl hc i [] s4 _ H4 _ I4 (stat fr4) st4 stop) fun r s5 ⟨hr, I5⟩ => ?_
      subst hr
      obtain ⟨m, hm, _⟩ := id I5.loc
      exact hRR _ _ H4 s5 m hCle hm (blkC_back I I5 f2) I5.free q
    · refine thn (T.item (blkC X N' scope cl' P2.objs.size s H fp pins) rfl rfl rfl hc i [] s4 _ H4 _ I4 (stat fr4) st4 go) fun r s5 ⟨u, hr, h5⟩ => ?_
      subst hr
      refine thn h5 fun _ s6 ⟨x, H6, I6, r6, y6, st6, fr6⟩ => ?_
      have I6' := I6.pinned (stat fr6) (T.obj _ _ st6)
      refine thn (hg cl' _ s H fp pins _ s6 _ H6 x u _ I6' r6 (step x H6 y6)) fun _ s7 ⟨σ7, H7, I7, wk7, q7⟩ => ?_
      refine thn (he cl' _ s H fp pins _ s7 σ7 H7 _ I7 q7) fun yv s8 ⟨y, H8, I8, r8, ha8, hsz8, w8⟩ => ?_
      refine thn (mt_append (X := blkC X N' scope cl' P2.objs.size s H fp pins) _ s8 σ7 H8 (.ref s.heap.objs.size) [y] (.ref s.heap.objs.size) [yv] (fun _ H9 => H9 = upd H8 s.heap.objs.size (.lst (ys ++ [y]))) I8 rfl (.cons r8 .nil) ⟨_, ys, y, rfl, rfl, ha8, hsz8, rfl⟩) fun _ s9 ⟨_, H9, I9, _, e9⟩ => ?_
      subst e9
      obtain ⟨m', hm', w8⟩ := hN _ _ w8
      refine ⟨m', hm', i + 1, ys ++ [y], _, I9.unpinned.weak wk7.1 wk7.2, T.keep _ _ _ st6 fun b hb o e => (I9.pin (b, o) (List.mem_append_right _ (List.mem_append_right _ (mem_pinsAt hb e)))).1, fun b hb => ?_, w8⟩
      obtain ⟨o, e, d⟩ := T.obj _ _ st6 b hb
      exact (I9.pin (b, o) (List.mem_append_right _ (List.mem_append_right _ (mem_pinsAt hb e)))).2.1
  exact codeAny_compStart_list (loop _ rfl) (T.self _ 0 _ _ _ (T.keep 0 _ _ st (fun b _ o e => old b o e)) (loop _ rfl))
theorem closC_of {pins : List (Addr × Obj)} {s : Shared} {σ : St} {H : Hp} (I : Inv X pins σ H s) (S : BlkScopeC X.N X.env.scope scope N' caps) :
    ∃ cl, closureFor scope X.env = pure cl ∧ (∀ x c, cl.lookup x = some c → X.env.cells.lookup x = some c) ∧ ∀ x ∈ scope.names, x.2 = .free → ∃ c, cl.lookup x.1 = some c :=
  closure_ok fun x hx hf => I.ok.has x.1 (S.frees x hx hf)
theorem pe_compC {N : List Str} {sc0 : Scope} (S : BlkScopeC N sc0 scope N' caps) (hc : X.calm = true) (hi : PI X tg iter wi)
    (hg : ∀ cl C s H ex pins, PG (blkC X N' scope cl C s H ex pins) tg g) (he : ∀ cl C s H ex pins, PE (blkC X N' scope cl C s H ex pins) elt te)
    (hs : ∀ x, foldedSetIterable iter X.env x = pure x := by intro _; rfl) (hN0 : X.N = N := by rfl) (h00 : X.env.scope = sc0 := by rfl) : PE X (.ListComp elt [⟨tg, iter, [], 0⟩] scope pos) (tComp wi g te caps) := by
  subst hN0 h00
  intro pins s σ H Q I h
  obtain ⟨cl, hclos, hcl1, hcl2⟩ := closC_of I S
  rw [eval_ListComp]
  refine wpAny_comprehension_free (use := none) rfl hs hclos S.kind S.names (thn (hi pins s σ H _ I h) fun xv s1 h1 => thn h1 fun itv s2 h2 => ?_)
  obtain ⟨it, fp, tn, J, H2, e, I2, T, st2, f2, R⟩ := h2
  subst e
  refine comp_coreC (RR := fun acc C => compPost (model X.prog X.w) X.A X.xe none (EP X pins σ Q) acc C) hc S hg he hcl1 hcl2 I2 T st2 f2 R ?_
  intro acc C H' s' m hC hm J' hn q
  exact ⟨m, hm, fun h' hs' => ⟨.ref _, H', I2.letC hC J' hn hs', rfl, q⟩⟩
end
end L2
/-! ### a body that begins with a dict display: boxed, so that nothing runs it while it is read -/
namespace L2
open PySem PySem.Spec PyProof.Rows
structure PSsO (X : Cx) (b : List Stmt) (t : TS) : Prop where
  out : PSs X b t
theorem exO {X : Cx} {b : List Stmt} {t : TS} {R : TS → Prop} (h : PSsO X b t) (r : R t) : ∃ t, PSs X b t ∧ R t := ⟨t, h.out, r⟩
end L2
/-! ### breadth first over any kind of key -/
namespace My
open PySem L2
theorem lexGt_trans : ∀ {a b c : List Int}, lexGt a b = true → lexGt b c = true → lexGt a c = true
  | [], _, _, h, _ => by simp [lexGt] at h
  | _ :: _, [], _, _, h => by simp [lexGt] at h
  | _ :: _, _ :: _, [], _, _ => rfl
  | a :: r, b :: t, c :: u, h1, h2 => by
    unfold lexGt at h1 h2 ⊢
    by_cases e1 : a = b
    · rw [if_pos e1] at h1
      by_cases e2 : b = c
      · rw [if_pos e2] at h2; rw [if_pos (e1.trans e2)]; exact lexGt_trans h1 h2
      · rw [if_neg e2] at h2; rw [if_neg (by rw [e1]; exact e2), e1]; exact h2
    · rw [if_neg e1] at h1
      have h1 := of_decide_eq_true h1
      by_cases e2 : b = c
      · rw [← e2, if_neg e1]; exact decide_eq_true h1
      · rw [if_neg e2] at h2
        have h2 := of_decide_eq_true h2
        rw [if_neg (by omega)]; exact decide_eq_true (by omega)
theorem lexGt_total : ∀ {a b : List Int}, a.length = b.length → a = b ∨ lexGt a b = true ∨ lexGt b a = true
  | [], [], _ => .inl rfl
  | [], _ :: _, h => by simp at h
  | _ :: _, [], h => by simp at h
  | a :: r, b :: t, h => by
    unfold lexGt
    by_cases e : a = b
    · rw [if_pos e, if_pos e.symm]
      rcases lexGt_total (a := r) (b := t) (by simpa using h) with h | h | h
      · exact .inl (by rw [e, h])
      · exact .inr (.inl h)
      · exact .inr (.inr h)
    · rw [if_neg e, if_neg (Ne.symm e)]
      rcases Int.lt_or_gt_of_ne e with h | h
      · exact .inr (.inr (decide_eq_true h))
      · exact .inr (.inl (decide_eq_true h))
theorem slt_trans {a b c : List Int} (h1 : slt a b) (h2 : slt b c) : slt a c := by
  unfold slt later at h1 h2 ⊢
  by_cases e1 : b.length = a.length
  · rw [if_neg (by simp [e1])] at h1
    by_cases e2 : c.length = b.length
    · rw [if_neg (by simp [e2])] at h2; rw [if_neg (by simp [e1, e2])]; exact lexGt_trans h2 h1
    · rw [if_pos e2] at h2; rw [if_pos (by omega)]; have := of_decide_eq_true h2; exact decide_eq_true (by omega)
  · rw [if_pos e1] at h1
    have h1 := of_decide_eq_true h1
    by_cases e2 : c.length = b.length
    · rw [if_pos (by omega)]; exact decide_eq_true (by omega)
    · rw [if_pos e2] at h2; have h2 := of_decide_eq_true h2; rw [if_pos (by omega)]; exact decide_eq_true (by omega)
theorem slt_total (a b : List Int) : a = b ∨ slt a b ∨ slt b a := by
  unfold slt later
  by_cases e : a.length = b.length
  · rw [if_neg (by simp [e]), if_neg (by simp [e])]
    rcases lexGt_total e with h | h | h
    · exact .inl h
    · exact .inr (.inr h)
    · exact .inr (.inl h)
  · rw [if_pos (Ne.symm e), if_pos e]
    rcases Nat.lt_or_gt_of_ne e with h | h
    · exact .inr (.inl (decide_eq_true h))
    · exact .inr (.inr (decide_eq_true h))
theorem slt_irrefl (a : List Int) : ¬ slt a a := by unfold slt; rw [later_irrefl]; decide
theorem slt_asymm {a b : List Int} (h : slt a b) : ¬ slt b a := fun h2 => slt_irrefl a (slt_trans h h2)
theorem slt_prefix (u : List Int) (x : Int) : slt u (u ++ [x]) := by
  unfold slt later; rw [if_pos (by simp)]; exact decide_eq_true (by simp)
/-- a = b or a ahead of b -/
def sle (a b : List Int) : Prop := a = b ∨ slt a b
theorem sle_slt {a b c : List Int} (h1 : sle a b) (h2 : slt b c) : slt a c := by
  rcases h1 with rfl | h1
  · exact h2
  · exact slt_trans h1 h2
theorem sle_trans {a b c : List Int} (h1 : sle a b) (h2 : sle b c) : sle a c := by
  rcases h2 with rfl | h2
  · exact h1
  · exact .inr (sle_slt h1 h2)
theorem sle_snoc {a b : List Int} (h : sle a b) (x : Int) : sle (a ++ [x]) (b ++ [x]) := by
  rcases h with rfl | h
  · exact .inl rfl
  · exact .inr (slt_snoc h x x)
section
variable {κ : Type} [DecidableEq κ]
def walkG (st : κ → Int → κ) (k0 : κ) (w : List Int) : κ := w.foldl st k0
theorem walkG_snoc (st : κ → Int → κ) (k0 : κ) (w : List Int) (x : Int) : walkG st k0 (w ++ [x]) = st (walkG st k0 w) x := by
  unfold walkG; rw [List.foldl_append]; rfl
structure BIG (st : κ → Int → κ) (k0 : κ) (d : Int) (at' j : Nat) (L : List (κ × List Int)) : Prop where
  head : L[0]? = some (k0, [])
  ok : ∀ e ∈ L, WordOk d e.2 ∧ walkG st k0 e.2 = e.1
  nd : (L.map Prod.fst).Nodup
  par : ∀ (k : Nat) (e : (κ × List Int)), L[k]? = some e → k = 0 ∨ ∃ (p : Nat) (q : (κ × List Int)) (x : Nat), p < k ∧ L[p]? = some q ∧ e.2 = q.2 ++ [(x : Int)] ∧ (p < at' ∨ (p = at' ∧ x < j))
  inc : ∀ (i k : Nat) (e f : (κ × List Int)), i < k → L[i]? = some e → L[k]? = some f → slt e.2 f.2
  cov : ∀ (p : Nat) (q : (κ × List Int)) (x : Nat), L[p]? = some q → (x : Int) < d → (p < at' ∨ (p = at' ∧ x < j)) → ∃ e ∈ L, e.1 = walkG st k0 (q.2 ++ [(x : Int)]) ∧ (e.2 = q.2 ++ [(x : Int)] ∨ slt e.2 (q.2 ++ [(x : Int)]))
def hasKeyG (L : List (κ × List Int)) (r : κ) : Bool := L.any fun e => decide (e.1 = r)
theorem hasKeyG_iff {L : List (κ × List Int)} {r : κ} : hasKeyG L r = true ↔ ∃ e ∈ L, e.1 = r := by simp [hasKeyG]
def addDoorG (L : List (κ × List Int)) (w : List Int) (j : Nat) (r : κ) : List (κ × List Int) := if hasKeyG L r = true then L else L ++ [(r, w ++ [(j : Int)])]
theorem BIG.start (st : κ → Int → κ) (k0 : κ) (d : Int) : BIG st k0 d 0 0 [(k0, [])] where
  head := rfl
  ok := fun e he => by rw [List.mem_singleton.mp he]; exact ⟨(fun x hx => by cases hx), rfl⟩
  nd := by simp
  par := fun k e h => by
    cases k with
    | zero => exact .inl rfl
    | succ k => simp at h
  inc := fun i k e f hik hi hk => by
    cases k with
    | zero => omega
    | succ k => simp at hk
  cov := fun p q x _ _ h => by omega
theorem BIG.new {st : κ → Int → κ} {k0 : κ} {d : Int} {at' j : Nat} {L : List (κ × List Int)} (B : BIG st k0 d at' j L) {q : (κ × List Int)} (hq : L[at']? = some q) : ∀ e ∈ L, slt e.2 (q.2 ++ [(j : Int)]) := fun e he => by
  obtain ⟨k, hk⟩ := List.getElem?_of_mem he
  rcases B.par k e hk with rfl | ⟨p, q', x, hp, hq', hw, hx⟩
  · rw [B.head] at hk; cases hk; exact slt_nil _ _
  · rw [hw]
    rcases hx with hx | ⟨rfl, hx⟩
    · exact slt_snoc (B.inc p at' q' q hx hq' hq) _ _
    · rw [hq] at hq'; cases hq'; exact slt_last _ (by omega)
theorem BIG.add {st : κ → Int → κ} {k0 : κ} {d : Int} {at' j : Nat} {L : List (κ × List Int)} (B : BIG st k0 d at' j L) {q : (κ × List Int)} (hq : L[at']? = some q) (hj : (j : Int) < d) {r : κ} (hr : r = st q.1 j) : BIG st k0 d at' (j + 1) (addDoorG L q.2 j r) := by
  have hqw := B.ok q (List.mem_of_getElem? hq)
  have hrw : walkG st k0 (q.2 ++ [(j : Int)]) = r := by rw [walkG_snoc, hqw.2, hr]
  unfold addDoorG
  by_cases hk : hasKeyG L r = true
  · rw [if_pos hk]
    refine ⟨B.head, B.ok, B.nd, fun k e h => ?_, B.inc, fun p q' x h1 h2 h3 => ?_⟩
    · rcases B.par k e h with h | ⟨p, q', x, a1, a2, a3, a4⟩
      · exact .inl h
      · exact .inr ⟨p, q', x, a1, a2, a3, by omega⟩
    · by_cases hn : p < at' ∨ (p = at' ∧ x < j)
      · exact B.cov p q' x h1 h2 hn
      · have e1 : p = at' := by omega
        have e2 : x = j := by omega
        subst e1 e2
        rw [hq] at h1; cases h1
        obtain ⟨e, he, hee⟩ := hasKeyG_iff.mp hk
        exact ⟨e, he, by rw [hrw]; exact hee, .inr (B.new hq e he)⟩
  · rw [if_neg hk]
    have hnk : ∀ e ∈ L, e.1 ≠ r := fun e he z => hk (hasKeyG_iff.mpr ⟨e, he, z⟩)
    have h0 : 0 < L.length := (List.getElem?_eq_some_iff.mp B.head).1
    have get_old : ∀ {k : Nat} {e : (κ × List Int)}, L[k]? = some e → (L ++ [(r, q.2 ++ [(j : Int)])])[k]? = some e := fun {k e} h => by
      rw [List.getElem?_append_left (List.getElem?_eq_some_iff.mp h).1]; exact h
    have get_inv : ∀ {k : Nat} {e : (κ × List Int)}, (L ++ [(r, q.2 ++ [(j : Int)])])[k]? = some e → (k < L.length ∧ L[k]? = some e) ∨ (k = L.length ∧ e = (r, q.2 ++ [(j : Int)])) := fun {k e} h => by
      rcases Nat.lt_or_ge k L.length with hl | hl
      · rw [List.getElem?_append_left hl] at h; exact .inl ⟨hl, h⟩
      · rw [List.getElem?_append_right hl] at h
        have hz : k - L.length = 0 := by
          have := (List.getElem?_eq_some_iff.mp h).1
          simp at this; omega
        rw [hz] at h
        simp at h
        exact .inr ⟨by omega, h.symm⟩
    refine ⟨get_old B.head, fun e he => ?_, ?_, fun k e h => ?_, fun i k e f hik hi hk => ?_, fun p q' x h1 h2 h3 => ?_⟩
    · rcases List.mem_append.mp he with he | he
      · exact B.ok e he
      · rw [List.mem_singleton.mp he]
        refine ⟨fun x hx => ?_, hrw⟩
        rcases List.mem_append.mp hx with hx | hx
        · exact hqw.1 x hx
        · rw [List.mem_singleton.mp hx]; omega
    · rw [List.map_append, List.map_singleton]
      refine List.nodup_append.mpr ⟨B.nd, by simp, fun a ha b hb => ?_⟩
      rw [List.mem_singleton.mp hb]
      obtain ⟨e, he, rfl⟩ := List.mem_map.mp ha
      exact hnk e he
    · rcases get_inv h with ⟨hl, h⟩ | ⟨hl, rfl⟩
      · rcases B.par k e h with h | ⟨p, q', x, a1, a2, a3, a4⟩
        · exact .inl h
        · exact .inr ⟨p, q', x, a1, get_old a2, a3, by omega⟩
      · exact .inr ⟨at', q, j, by rw [hl]; exact (List.getElem?_eq_some_iff.mp hq).1, get_old hq, rfl, by omega⟩
    · rcases get_inv hk with ⟨hl, hk⟩ | ⟨hl, rfl⟩
      · rcases get_inv hi with ⟨_, hi⟩ | ⟨hl', _⟩
        · exact B.inc i k e f hik hi hk
        · omega
      · rcases get_inv hi with ⟨_, hi⟩ | ⟨hl', _⟩
        · exact B.new hq e (List.mem_of_getElem? hi)
        · omega
    · rcases get_inv h1 with ⟨_, h4⟩ | ⟨hl, _⟩
      · clear h1
        have h1 := h4
        by_cases hn : p < at' ∨ (p = at' ∧ x < j)
        · obtain ⟨e, he, e1, e2⟩ := B.cov p q' x h1 h2 hn
          exact ⟨e, List.mem_append_left _ he, e1, e2⟩
        · have e1 : p = at' := by omega
          have e2 : x = j := by omega
          subst e1 e2
          rw [hq] at h1; cases h1
          exact ⟨(r, q.2 ++ [(x : Int)]), by simp, hrw.symm, .inl rfl⟩
      · have := (List.getElem?_eq_some_iff.mp hq).1
        omega
theorem BIG.next {st : κ → Int → κ} {k0 : κ} {d : Int} {at' : Nat} {L : List (κ × List Int)} (B : BIG st k0 d at' d.toNat L) : BIG st k0 d (at' + 1) 0 L :=
  ⟨B.head, B.ok, B.nd, fun k e h => by
    rcases B.par k e h with h | ⟨p, q', x, a1, a2, a3, a4⟩
    · exact .inl h
    · exact .inr ⟨p, q', x, a1, a2, a3, by omega⟩, B.inc, fun p q x h1 h2 h3 => B.cov p q x h1 h2 (by omega)⟩
theorem BIG.wlen {st : κ → Int → κ} {k0 : κ} {d : Int} {at' j : Nat} {L : List (κ × List Int)} (B : BIG st k0 d at' j L) : ∀ (n k : Nat) (e : (κ × List Int)), k ≤ n → L[k]? = some e → e.2.length ≤ k
  | 0, k, e, hk, h => by
    have : k = 0 := by omega
    subst this
    rw [B.head] at h; cases h; exact Nat.le_refl _
  | n + 1, k, e, hk, h => by
    rcases B.par k e h with rfl | ⟨p, q, x, hp, hq, hw, _⟩
    · rw [B.head] at h; cases h; exact Nat.le_refl _
    · have := B.wlen n p q (by omega) hq
      rw [hw, List.length_append, List.length_singleton]; omega

/-- all words ahead of the k-th one lead to keys that stand ahead of it -/
theorem BIG.below {st : κ → Int → κ} {k0 : κ} {d : Int} {at' j : Nat} {L : List (κ × List Int)} (B : BIG st k0 d at' j L) (e : κ × List Int) (he : L[at']? = some e) :
    ∀ (n : Nat) (w : List Int), w.length ≤ n → WordOk d w → slt w e.2 → ∃ (i : Nat) (f : κ × List Int), i < at' ∧ L[i]? = some f ∧ f.1 = walkG st k0 w ∧ sle f.2 w := by
  have ahead : ∀ {f : κ × List Int}, f ∈ L → slt f.2 e.2 → ∃ i, i < at' ∧ L[i]? = some f := fun {f} hf hs => by
    obtain ⟨i, hi⟩ := List.getElem?_of_mem hf
    rcases Nat.lt_or_ge i at' with h | h
    · exact ⟨i, h, hi⟩
    · rcases Nat.eq_or_lt_of_le h with h | h
      · subst h; rw [he] at hi; cases hi; exact absurd hs (slt_irrefl _)
      · exact absurd hs (slt_asymm (B.inc at' i e f h he hi))
  have base : slt [] e.2 → ∃ (i : Nat) (f : κ × List Int), i < at' ∧ L[i]? = some f ∧ f.1 = walkG st k0 [] ∧ sle f.2 [] := fun hs => by
    obtain ⟨i, hi, hL⟩ := ahead (List.mem_of_getElem? B.head) hs
    exact ⟨i, _, hi, hL, rfl, .inl rfl⟩
  intro n
  induction n with
  | zero =>
    intro w hw ok hs
    have : w = [] := List.length_eq_zero_iff.mp (by omega)
    subst this
    exact base hs
  | succ n ih =>
    intro w hw ok hs
    by_cases hn : w = []
    · subst hn; exact base hs
    · obtain ⟨u, x, rfl⟩ : ∃ u x, w = u ++ [x] := ⟨w.dropLast, w.getLast hn, (List.dropLast_concat_getLast hn).symm⟩
      have oku : WordOk d u := fun y hy => ok y (List.mem_append_left _ hy)
      obtain ⟨x0, x1⟩ := ok x (by simp)
      obtain ⟨i, f, hi, hL, hk, hle⟩ := ih u (by simp at hw; omega) oku (slt_trans (slt_prefix u x) hs)
      obtain ⟨g, hg, g1, g2⟩ := B.cov i f x.toNat hL (by omega) (.inl hi)
      rw [Int.toNat_of_nonneg x0] at g1 g2
      have g2 : sle g.2 (u ++ [x]) := sle_trans g2 (sle_snoc hle x)
      obtain ⟨m, hm, hLm⟩ := ahead hg (sle_slt g2 hs)
      refine ⟨m, g, hm, hLm, ?_, g2⟩
      rw [g1, walkG_snoc, walkG_snoc, (B.ok f (List.mem_of_getElem? hL)).2, hk]
/-- at the end: all keys -/
theorem BIG.all {st : κ → Int → κ} {k0 : κ} {d : Int} {L : List (κ × List Int)} (B : BIG st k0 d L.length 0 L) : ∀ (n : Nat) (w : List Int), w.length ≤ n → WordOk d w → ∃ f ∈ L, f.1 = walkG st k0 w ∧ sle f.2 w := by
  intro n
  induction n with
  | zero =>
    intro w hw ok
    have : w = [] := List.length_eq_zero_iff.mp (by omega)
    subst this
    exact ⟨_, List.mem_of_getElem? B.head, rfl, .inl rfl⟩
  | succ n ih =>
    intro w hw ok
    by_cases hn : w = []
    · subst hn; exact ⟨_, List.mem_of_getElem? B.head, rfl, .inl rfl⟩
    · obtain ⟨u, x, rfl⟩ : ∃ u x, w = u ++ [x] := ⟨w.dropLast, w.getLast hn, (List.dropLast_concat_getLast hn).symm⟩
      have oku : WordOk d u := fun y hy => ok y (List.mem_append_left _ hy)
      obtain ⟨x0, x1⟩ := ok x (by simp)
      obtain ⟨f, hf, hk, hle⟩ := ih u (by simp at hw; omega) oku
      obtain ⟨i, hi⟩ := List.getElem?_of_mem hf
      obtain ⟨g, hg, g1, g2⟩ := B.cov i f x.toNat hi (by omega) (.inl (List.getElem?_eq_some_iff.mp hi).1)
      rw [Int.toNat_of_nonneg x0] at g1 g2
      refine ⟨g, hg, ?_, sle_trans g2 (sle_snoc hle x)⟩
      rw [g1, walkG_snoc, walkG_snoc, (B.ok f hf).2, hk]
end
end My
/-! ### {(a, b): v}: one pair, the key a tuple -/
namespace L2
open PySem PySem.Spec PyProof.Rows
def tDispT1 (tk tv : TE) : TE := fun σ H Q => ∀ p, H p = none → tk σ (upd H p (.dT [])) fun x H1 => tv σ H1 fun y H2 => ∃ b ks, x = .ref b ∧ H2 b = some (.tup (ks.map kV)) ∧ H2 p = some (.dT []) ∧ Q (.ref p) (upd H2 p (.dT [(ks, y)]))
theorem pe_dispT1 {X : Cx} {pos : Pos} {k v : Expr} {tk tv : TE} (hu : X.A.units + 1 < cLine) (hk : PE X k tk) (hv : PE X v tv) : PE X (.Dict [some k] [v] pos) (tDispT1 tk tv) := by
  intro pins s σ H Q I q
  rw [arm_eval_Dict, zip_pairTrees [some k] [v] X.env pos rfl rfl, dictDisplay_pairs _ (by simp [pairTrees]) (by simp [pairTrees])]
  have hn := I.hok.fresh (Nat.le_refl s.heap.objs.size)
  have I1 := I.laid (a := s.heap.objs.size) (o := .dT []) (h' := s.heap.push { cls := .type "dict", data := .dict #[] }) (t' := s.toks) (fun _ _ q => Heap.get?_push_of_some _ q) (Nat.le_refl _) (dt_empty s.heap I.big)
  refine wpAny_bind (wpAny_standAt (wpAny_bind ?_))
  unfold subDict
  refine wpAny_bind (wpAny_alloc ?_)
  refine wpAny_bind (wpAny_holding ?_)
  rw [if_pos (by simp [pairTrees])]
  refine wpAny_bind (evalPairs_cons (thn (hk pins _ σ _ _ I1 (q _ hn)) fun kv s1 ⟨x, H1, I2, rx, q1⟩ => ?_))
  refine wpAny_bind (thn (hv pins s1 σ H1 _ I2 q1) fun vv s2 ⟨y, H2, I3, ry, b, ks, ex, hb, hp, q2⟩ => wpAny_bind (wpAny_standAt (wpAny_pure (evalPairs_nil ?_))))
  subst ex
  cases (show kv = Value.ref b from rx)
  obtain ⟨z, hd, xs, rel, dd⟩ := dt_of I3.hok hp
  cases rel
  refine wpAny_holding (wpAny_bind ?_)
  rw [List.forIn_cons]
  refine wpAny_bind (wpAny_bind (wpAny_dictSet_heap (hsz := Nat.zero_le _) ?room (key_of I3.hok hb) dd fun h' dd' hs => ?fin))
  case fin =>
    refine wpAny_pure ?_
    dsimp only
    rw [List.forIn_nil]
    refine wpAny_pure (wpAny_pure (wpAny_pure (wpAny_pure ?_)))
    obtain ⟨q', es, ep, hq, h2, h3, h4, _, h5⟩ := dd'
    have hI := d_write (t' := s2.toks + (tupleKind (mixKind X.prog X.w)).draws ks) I3 (by rw [hp]; exact True.intro) hs ⟨q', hq⟩ (ob := .dT [(ks, y)]) ⟨(show 1 ≤ sizeLine by decide), hd, [(ks, b, vv)], .cons ⟨rfl, by rw [upd_ne (ne_of hb hp (fun z => nomatch z))]; exact hb, ry⟩ .nil, q', es, ep, hq, h2, h3, h4, h5⟩
    exact ⟨.ref s.heap.objs.size, _, hI, rfl, q2⟩
  case room => exact (show X.A.units < cLine by omega)
theorem pssO_cons {X : Cx} {st : Stmt} {rest : List Stmt} {t u : TS} (h1 : PS X st t) (h2 : PSsO X rest u) : PSsO X (st :: rest) (tSeq t u) := ⟨pss_cons h1 h2.out⟩
theorem pssO_consT {X : Cx} {i : Nat} {x : Str} {k v : Expr} {pos pos' spos : Pos} {tk tv : TE} {rest : List Stmt} {u : TS} (hu : X.A.units + 1 < cLine) (hN : X.N.Nodup) (hi : X.N[i]? = some x) (hx : Loc X.env.scope x) (hk : PE X k tk) (hv : PE X v tv) (h2 : PSs X rest u)
    (hf : X.fn x = true ∨ X.env.scope.names.lookup x = some .local := by first | exact .inl rfl | exact .inr rfl | assumption)
    (hsw : swapsWith (.Dict [some k] [v] pos) (some (.Name x pos')) spos.line X.env = pure false := by rfl) :
    PSsO X (.Assign [.Name x pos'] (.Dict [some k] [v] pos) spos :: rest) (tSeq (tAsg (tDispT1 tk tv) (gName i)) u) :=
  ⟨pss_cons (ps_set hN hi hx (pe_dispT1 hu hk hv)) h2⟩
section
variable {σ : St} {H : Hp} {Q : VK} {tk tv : TE}
theorem r_dispT (h : ∀ p, H p = none → tk σ (upd H p (.dT [])) fun x H1 => tv σ H1 fun y H2 => ∃ b ks, x = .ref b ∧ H2 b = some (.tup (ks.map kV)) ∧ H2 p = some (.dT []) ∧ Q (.ref p) (upd H2 p (.dT [(ks, y)]))) : tDispT1 tk tv σ H Q := h
end
end L2
/-! ### a truth in an f-string; the pairs of a dict, walked while the dict is held fast -/
namespace L2
open PySem PySem.Spec PyProof.Rows
def jBl (te : TE) (t : St → Hp → (Hp → Prop) → Prop) : St → Hp → (Hp → Prop) → Prop := fun σ H Q => te σ H fun x H1 => ∃ b : Bool, x = .bl b ∧ t σ H1 Q
/-! the view -/
def ItemsAt (v d : Addr) : Heap → Prop := fun h => h.IsItemsView v d
def rItems : V → List V → Hp → VK → Prop := fun x vs H Q => ∃ d, x = .ref d ∧ vs = [] ∧ IsD H d ∧ ∀ v, H v = none → Q (.ref v) (upd H v (.ext (ItemsAt v d)))
section
variable {X : Cx}
end
/-! its iterator, by the dict's bare entries -/
section
variable {prog : Program} {w : World} {A : Around} {E : Value → Shared → Prop} {s : Shared} {it d : Addr} {i ep : Nat} {es : Array DictEntry} {od : Obj} {c1 c2 : Value}
end
/-! held fast -/
def HeldAt (d : Addr) (od : Obj) : Heap → Prop := fun h => h.get? d = some od
def Itz (d : Addr) (od : Obj) (ps : List (V × V)) : It :=
  ⟨fun i H => H d = some (.ext (HeldAt d od)) ∧ i < ps.length,
   fun i H x H' => ∃ t k v, x = .ref t ∧ H t = none ∧ H' = upd H t (.tup [k, v]) ∧ ps[i]? = some (k, v),
   fun i H => H d = some (.ext (HeldAt d od)) ∧ ps.length ≤ i⟩
def EsOk (ps : List (V × V)) (es : Array DictEntry) : Prop := Paired (fun (p : V × V) (e : DictEntry) => RelV p.1 e.key ∧ RelV p.2 e.val) ps es.toList
/-- what is known of the dict's object, so that it can be let go again as it was -/
def ThawT (P : Program) (w : World) (d : Addr) (od : Obj) (kvs : List (List Key × V)) (bs : List Addr) : Prop :=
  ∀ (H' : Hp) (h : Heap), h.get? d = some od → (∀ (i : Nat) b k y, bs[i]? = some b → kvs[i]? = some (k, y) → H' b = some (.tup (k.map kV))) → ObjOk P w H' h d (.dT kvs)
def iItemsT (P : Program) (w : World) (tl : TE) : TI := fun σ H R => tl σ H fun x H1 => ∃ v d kvs, x = .ref v ∧ H1 v = some (.ext (ItemsAt v d)) ∧ H1 d = some (.dT kvs) ∧
  ∀ od bs, bs.length = kvs.length → (∀ (i : Nat) b k y, bs[i]? = some b → kvs[i]? = some (k, y) → H1 b = some (.tup (k.map kV))) → ThawT P w d od kvs bs → R (Itz d od (List.zipWith (fun b kv => (V.ref b, kv.2)) bs kvs)) (upd H1 d (.ext (HeldAt d od)))
section
variable {X : Cx}
/-- let go again, behind the expression -/
def tThaw (P : Program) (w : World) (t : TE) : TE := fun σ H Q => t σ H fun x H1 => ∃ d od kvs bs, ThawT P w d od kvs bs ∧ H1 d = some (.ext (HeldAt d od)) ∧ bs.length = kvs.length ∧ (∀ (i : Nat) b k y, bs[i]? = some b → kvs[i]? = some (k, y) → H1 b = some (.tup (k.map kV))) ∧ Q x (upd H1 d (.dT kvs))
end
section
variable {σ : St} {H : Hp} {Q : VK} {t td ty tl : TE} {P : Program} {w : World}
end
/-! range(n) as a value, list of it -/
section
variable {X : Cx} (K : PySem.W.Frag)
theorem call_rangeV : CallR X (.type "range") (fun xs H Q => ∃ n : Int, xs = [.int n] ∧ ∀ p, H p = none → Q (.ref p) (upd H p (.rng 0 n))) := by
  intro pins s σ H xs us Q I r h
  obtain ⟨n, rfl, q⟩ := h
  obtain ⟨u, rfl, rx⟩ := vals1 r
  obtain ⟨t, rfl⟩ := rx
  refine call_range_1 ?_
  refine ⟨.ref s.heap.objs.size, _, I.laid (t' := s.toks + 1 + 1) (fun _ _ q => Heap.get?_push_of_some _ q) (Nat.le_refl _) ?_, rfl, q _ I.fresh⟩
  exact ⟨_, _, _, Heap.get?_push_size _ rfl⟩
theorem call_list_rng (hc : X.calm = true) : CallR X (.type "list") (fun xs H Q => ∃ p n, xs = [.ref p] ∧ H p = some (.rng 0 n) ∧ 0 ≤ n ∧ n ≤ 100000 ∧ ∀ l, H l = none → Q (.ref l) (upd H l (.lst ((List.range n.toNat).map fun (i : Nat) => V.int (i : Int))))) := by
  intro pins s σ H xs us Q I r h
  obtain ⟨p, n, rfl, hp, h0, h1, q⟩ := h
  obtain ⟨u, rfl, rx⟩ := vals1 r
  cases rx
  obtain ⟨t, u, v, hr⟩ := (show ObjOk X.prog X.w H s.heap p (.rng 0 n) from I.hok p _ hp)
  refine call_list_range (n := n.toNat) (I.ok.hd hc) hr (small_one (by decide) (by decide) (by omega) (by omega)) (by rw [rangeSize_one]; split <;> omega) (by omega) fun h' tk acc c kp e hit => ?_
  have hl : n.toNat ≤ sizeLine := Nat.le_trans (show _ ≤ 100000 by omega) (by decide)
  refine ⟨.ref s.heap.objs.size, _, I.laid (t' := tk) kp (Nat.le_refl _) (show ObjOk X.prog X.w _ h' _ (.lst ((List.range n.toNat).map fun (i : Nat) => V.int (i : Int))) from ⟨by simpa using hl, acc.toList, c, vals_of (by have := hit.1; simp [Array.length_toList]; omega) (fun j u hu => ?_), by simpa using e⟩), rfl, q _ I.fresh⟩
  obtain ⟨hj, _⟩ := List.getElem?_eq_some_iff.mp hu
  obtain ⟨tk', e'⟩ := hit.2 j u (by rw [← Array.getElem?_toList]; exact hu)
  have hjn : j < n.toNat := by rw [← hit.1]; simpa using hj
  refine ⟨.int (j : Int), by rw [List.getElem?_map, List.getElem?_range hjn]; rfl, tk', ?_⟩
  rw [e']; congr 1; omega
end
end L2
namespace My
abbrev Tri := Int × Int × List Int
/-- how many of the rooms below n lead themselves -/
def fixN (root : Nat → Nat) (n : Nat) : Nat := ((List.range n).filter fun i => decide (root i = i)).length
/-- pairs kept so far, in order; those ahead of the k-th are left by all doors, the k-th by the doors below j -/
structure PInv (rss : List (List Int)) (a b d : Int) (Kp : List Tri) (root : Nat → Nat) (k j : Nat) : Prop where
  ok : ∀ e ∈ Kp, WordOk d e.2.2 ∧ e.1 = walkI rss a e.2.2 ∧ e.2.1 = walkI rss b e.2.2
  inc : Kp.Pairwise (fun e f => slt e.2.2 f.2.2)
  ahead : ∀ e ∈ Kp, ∀ q, Kp[k]? = some q → slt e.2.2 (q.2.2 ++ [(j : Int)])
  first : ∀ f : Int → Nat, (∀ e ∈ Kp, sle e.2.2 [] → f e.1 = f e.2.1) → f a = f b
  done : ∀ (m : Nat) e (c : Nat), Kp[m]? = some e → (c : Int) < d → (m < k ∨ (m = k ∧ c < j)) → ∀ f : Int → Nat, (∀ e' ∈ Kp, sle e'.2.2 (e.2.2 ++ [(c : Int)]) → f e'.1 = f e'.2.1) → f (step rss e.1 c) = f (step rss e.2.1 c)
  sound : ∀ f : Int → Nat, (∀ e ∈ Kp, f e.1 = f e.2.1) → ∀ u v : Nat, root u = root v → f (u : Int) = f (v : Int)
  count : Kp.length + fixN root rss.length ≤ rss.length
  wl : ∀ (m : Nat) e, Kp[m]? = some e → e.2.2.length ≤ m
def linkR (root : Nat → Nat) (x y : Nat) : Nat → Nat := fun z => if root z = root y then root x else root z
theorem fix_link {root : Nat → Nat} {n x y : Nat} (hy : root y < n) (ix : root (root x) = root x) (iy : root (root y) = root y) (hne : root x ≠ root y) : fixN (linkR root x y) n + 1 ≤ fixN root n := by
  unfold fixN
  have key : ∀ (l : List Nat), l.Nodup → root y ∈ l → (l.filter fun i => decide (linkR root x y i = i)).length + 1 ≤ (l.filter fun i => decide (root i = i)).length := by
    have sub : ∀ i, linkR root x y i = i → root i = i ∧ i ≠ root y := fun i h => by
      unfold linkR at h
      split at h
      · rename_i h1
        rw [← h, ix] at h1
        exact absurd h1 hne
      · rename_i h1
        exact ⟨h, fun z => h1 (by rw [z, iy])⟩
    have le : ∀ l : List Nat, (l.filter fun i => decide (linkR root x y i = i)).length ≤ (l.filter fun i => decide (root i = i)).length := by
      intro l
      induction l with
      | nil => exact Nat.le_refl _
      | cons i l ih =>
        by_cases h : linkR root x y i = i
        · rw [List.filter_cons_of_pos (by simpa using h), List.filter_cons_of_pos (by simpa using (sub i h).1)]
          simp only [List.length_cons]; omega
        · rw [List.filter_cons_of_neg (by simpa using h)]
          by_cases h2 : root i = i
          · rw [List.filter_cons_of_pos (by simpa using h2)]; simp only [List.length_cons]; omega
          · rw [List.filter_cons_of_neg (by simpa using h2)]; exact ih
    intro l
    induction l with
    | nil => intro _ h; simp at h
    | cons i l ih =>
      intro hnd hm
      obtain ⟨h1, h2⟩ := List.nodup_cons.mp hnd
      rcases List.mem_cons.mp hm with h | h
      · subst h
        rw [List.filter_cons_of_neg (by simpa using fun z => (sub _ z).2 rfl), List.filter_cons_of_pos (by simpa using iy)]
        have := le l
        simp only [List.length_cons]; omega
      · have := ih h2 h
        by_cases h3 : linkR root x y i = i
        · rw [List.filter_cons_of_pos (by simpa using h3), List.filter_cons_of_pos (by simpa using (sub i h3).1)]
          simp only [List.length_cons]; omega
        · rw [List.filter_cons_of_neg (by simpa using h3)]
          by_cases h4 : root i = i
          · rw [List.filter_cons_of_pos (by simpa using h4)]; simp only [List.length_cons]; omega
          · rw [List.filter_cons_of_neg (by simpa using h4)]; exact this
  exact key _ List.nodup_range (List.mem_range.mpr hy)
theorem fix_same {root : Nat → Nat} {x y : Nat} (h : root x = root y) : linkR root x y = root := by
  funext z
  unfold linkR
  split
  · rename_i h1; rw [h, h1]
  · rfl
theorem sound_link {Kp : List Tri} {root : Nat → Nat} {x y : Nat} (so : ∀ f : Int → Nat, (∀ e ∈ Kp, f e.1 = f e.2.1) → ∀ u v : Nat, root u = root v → f (u : Int) = f (v : Int)) {f : Int → Nat} (hf : ∀ e ∈ Kp, f e.1 = f e.2.1) (hxy : f (x : Int) = f (y : Int)) : ∀ u v : Nat, linkR root x y u = linkR root x y v → f (u : Int) = f (v : Int) := by
  intro u v h
  unfold linkR at h
  have toY : ∀ z : Nat, root z = root y → f (z : Int) = f (x : Int) := fun z hz => (so f hf z y hz).trans hxy.symm
  have toX : ∀ z : Nat, root z = root x → f (z : Int) = f (x : Int) := fun z hz => so f hf z x hz
  split at h
  · rename_i h1
    split at h
    · rename_i h2; rw [toY u h1, toY v h2]
    · rename_i h2; rw [toY u h1, toX v h.symm]
  · rename_i h1
    split at h
    · rename_i h2; rw [toX u h, toY v h2]
    · exact so f hf u v h
/-- the first pair -/
theorem PInv.start {rss : List (List Int)} {a b d : Int} {x y : Nat} (ha : a = (x : Int)) (hb : b = (y : Int)) (hx : x < rss.length) (hy : y < rss.length) (hne : x ≠ y) : PInv rss a b d [(a, b, [])] (linkR (fun z => z) x y) 0 0 := by
  subst ha hb
  refine ⟨fun e he => ?_, List.pairwise_singleton _ _, fun e he q hq => ?_, fun f hf => ?_, fun m e c h1 h2 h3 => ?_, fun f hf => ?_, ?_, fun m e h => ?_⟩
  · rw [List.mem_singleton.mp he]; exact ⟨(fun z hz => nomatch hz), rfl, rfl⟩
  · rw [List.mem_singleton.mp he]
    have : q = ((x : Int), (y : Int), []) := by simpa using hq.symm
    rw [this]
    exact slt_nil [] 0
  · exact hf _ (List.mem_singleton.mpr rfl) (.inl rfl)
  · omega
  · exact sound_link (Kp := []) (fun f _ u v h => by rw [show u = v from h]) (f := f) (fun e he => nomatch he) (hf _ (List.mem_singleton.mpr rfl))
  · have := fix_link (root := fun z => z) (n := rss.length) (x := x) (y := y) hy rfl rfl hne
    have h2 : fixN (fun z => z) rss.length = rss.length := by
      unfold fixN
      rw [List.filter_eq_self.mpr (fun i _ => by simp), List.length_range]
    simp only [List.length_singleton]; omega
  · rw [List.mem_singleton.mp (List.mem_of_getElem? h)]; exact Nat.zero_le _
/-- the next door, a pair that is linked already -/
theorem PInv.old {rss : List (List Int)} {a b d : Int} {Kp : List Tri} {root : Nat → Nat} {k j : Nat} (P : PInv rss a b d Kp root k j) {q : Tri} (hq : Kp[k]? = some q) {x y : Nat} (hx : step rss q.1 j = (x : Int)) (hy : step rss q.2.1 j = (y : Int)) (h : root x = root y) : PInv rss a b d Kp root k (j + 1) := by
  refine ⟨P.ok, P.inc, fun e he q' hq' => ?_, P.first, fun m e c h1 h2 h3 f hf => ?_, P.sound, P.count, P.wl⟩
  · rw [hq] at hq'; cases hq'
    exact slt_trans (P.ahead e he q hq) (slt_last _ (by omega))
  · by_cases hn : m = k ∧ c = j
    · obtain ⟨rfl, rfl⟩ := hn
      rw [hq] at h1; cases h1
      rw [hx, hy]
      exact P.sound f (fun e' he' => hf e' he' (.inr (P.ahead e' he' _ hq))) x y h
    · exact P.done m e c h1 h2 (by omega) f hf
/-- the next door, a pair that is kept -/
theorem PInv.new {rss : List (List Int)} {a b d : Int} {Kp : List Tri} {root : Nat → Nat} {k j : Nat} (P : PInv rss a b d Kp root k j) {q : Tri} (hq : Kp[k]? = some q) (hj : (j : Int) < d) {x y : Nat} (hx : step rss q.1 j = (x : Int)) (hy : step rss q.2.1 j = (y : Int)) (hyl : root y < rss.length) (ix : root (root x) = root x) (iy : root (root y) = root y) (h : root x ≠ root y) :
    PInv rss a b d (Kp ++ [((x : Int), (y : Int), q.2.2 ++ [(j : Int)])]) (linkR root x y) k (j + 1) := by
  have hkl : k < Kp.length := (List.getElem?_eq_some_iff.mp hq).1
  have hqm : q ∈ Kp := List.mem_of_getElem? hq
  obtain ⟨o1, o2, o3⟩ := P.ok q hqm
  refine ⟨fun e he => ?_, ?_, fun e he q' hq' => ?_, fun f hf => ?_, fun m e c h1 h2 h3 f hf => ?_, fun f hf => ?_, ?_, fun m e h1 => ?_⟩
  · rcases List.mem_append.mp he with he | he
    · exact P.ok e he
    · rw [List.mem_singleton.mp he]
      refine ⟨fun z hz => ?_, ?_, ?_⟩
      · rcases List.mem_append.mp hz with hz | hz
        · exact o1 z hz
        · rw [List.mem_singleton.mp hz]; omega
      · show (x : Int) = _; rw [walkI_snoc, ← o2, hx]
      · show (y : Int) = _; rw [walkI_snoc, ← o3, hy]
  · refine List.pairwise_append.mpr ⟨P.inc, List.pairwise_singleton _ _, fun e he f hf => ?_⟩
    rw [List.mem_singleton.mp hf]
    exact P.ahead e he q hq
  · rw [List.getElem?_append_left hkl, hq] at hq'
    cases hq'
    rcases List.mem_append.mp he with he | he
    · exact slt_trans (P.ahead e he q hq) (slt_last _ (by omega))
    · rw [List.mem_singleton.mp he]; exact slt_last _ (by omega)
  · exact P.first f fun e he => hf e (List.mem_append_left _ he)
  · by_cases hm : m < Kp.length
    · rw [List.getElem?_append_left hm] at h1
      by_cases hn : m = k ∧ c = j
      · obtain ⟨rfl, rfl⟩ := hn
        rw [hq] at h1; cases h1
        rw [hx, hy]
        exact hf ((x : Int), (y : Int), q.2.2 ++ [(c : Int)]) (List.mem_append_right _ (List.mem_singleton.mpr rfl)) (.inl rfl)
      · exact P.done m e c h1 h2 (by omega) f fun e' he' => hf e' (List.mem_append_left _ he')
    · omega
  · exact sound_link P.sound (fun e he => hf e (List.mem_append_left _ he)) (hf ((x : Int), (y : Int), _) (List.mem_append_right _ (List.mem_singleton.mpr rfl)))
  · have := fix_link (n := rss.length) hyl ix iy h
    have := P.count
    simp only [List.length_append, List.length_singleton]; omega
  · rcases Nat.lt_or_ge m Kp.length with hm | hm
    · rw [List.getElem?_append_left hm] at h1; exact P.wl m e h1
    · rw [List.getElem?_append_right hm] at h1
      have he := List.mem_singleton.mp (List.mem_of_getElem? h1)
      have := P.wl k q hq
      rw [he]; simp only [List.length_append, List.length_singleton]; omega
theorem PInv.next {rss : List (List Int)} {a b d : Int} {Kp : List Tri} {root : Nat → Nat} {k j : Nat} (P : PInv rss a b d Kp root k j) (hj : (j : Int) = d) (hk : k < Kp.length) : PInv rss a b d Kp root (k + 1) 0 := by
  refine ⟨P.ok, P.inc, fun e he q' hq' => ?_, P.first, fun m e c h1 h2 h3 f hf => P.done m e c h1 h2 (by omega) f hf, P.sound, P.count, P.wl⟩
  obtain ⟨q, hq⟩ : ∃ q, Kp[k]? = some q := ⟨_, List.getElem?_eq_getElem hk⟩
  refine slt_trans (P.ahead e he q hq) (slt_snoc ?_ _ _)
  obtain ⟨h1, e1⟩ := List.getElem?_eq_some_iff.mp hq
  obtain ⟨h2, e2⟩ := List.getElem?_eq_some_iff.mp hq'
  have := List.pairwise_iff_getElem.mp P.inc k (k + 1) h1 h2 (by omega)
  rw [e1, e2] at this
  exact this
/-- all pairs to which words lead whose ways are known -/
theorem PInv.gen {rss : List (List Int)} {a b d : Int} {Kp : List Tri} {root : Nat → Nat} {k j : Nat} (P : PInv rss a b d Kp root k j) (lim : List Int → Prop)
    (hl : ∀ (m : Nat) e c v, Kp[m]? = some e → (c : Nat) < d → sle e.2.2 v → lim (v ++ [(c : Int)]) → (m < k ∨ (m = k ∧ c < j))) (hpre : ∀ v x, lim (v ++ [x]) → lim v) :
    ∀ (n : Nat) (v : List Int), v.length = n → WordOk d v → lim v → ∀ f : Int → Nat, (∀ e ∈ Kp, sle e.2.2 v → f e.1 = f e.2.1) → f (walkI rss a v) = f (walkI rss b v) := by
  intro n
  induction n with
  | zero =>
    intro v hv _ _ f hf
    have : v = [] := List.length_eq_zero_iff.mp hv
    subst this
    exact P.first f hf
  | succ n ih =>
    intro v hv ok hlv f hf
    obtain ⟨u, x, rfl⟩ : ∃ u x, v = u ++ [x] := ⟨v.dropLast, v.getLast (fun z => by rw [z] at hv; simp at hv), (List.dropLast_concat_getLast _).symm⟩
    have hx := ok x (by simp)
    obtain ⟨c, rfl⟩ : ∃ c : Nat, x = (c : Int) := ⟨x.toNat, by omega⟩
    rw [walkI_snoc, walkI_snoc]
    refine ih u (by simpa using hv) (fun z hz => ok z (List.mem_append_left _ hz)) (hpre _ _ hlv) (fun z => f (step rss z c)) fun e he hle => ?_
    obtain ⟨m, hm⟩ := List.getElem?_of_mem he
    exact P.done m e c hm hx.2 (hl m e c u hm hx.2 hle hlv) f fun e' he' hle' => hf e' he' (sle_trans hle' (sle_snoc hle _))
theorem PInv.all {rss : List (List Int)} {a b d : Int} {Kp : List Tri} {root : Nat → Nat} (P : PInv rss a b d Kp root Kp.length 0) {f : Int → Nat} (hf : ∀ e ∈ Kp, f e.1 = f e.2.1) {v : List Int} (ok : WordOk d v) : f (walkI rss a v) = f (walkI rss b v) :=
  P.gen (fun _ => True) (fun m e c v hm _ _ _ => .inl (List.getElem?_eq_some_iff.mp hm).1) (fun _ _ _ => trivial) v.length v rfl ok trivial f fun e he _ => hf e he
/-- the i-th pair, kept already, the pairs ahead of it alike: no lesser word parts -/
theorem PInv.least {rss : List (List Int)} {a b d : Int} {Kp : List Tri} {root : Nat → Nat} {k : Nat} (P : PInv rss a b d Kp root k 0) {i : Nat} {q : Tri} (hq : Kp[i]? = some q) {f : Int → Nat} (hf : ∀ (m : Nat) e, m < i → Kp[m]? = some e → f e.1 = f e.2.1)
    {v : List Int} (ok : WordOk d v) (hv : slt v q.2.2) : f (walkI rss a v) = f (walkI rss b v) := by
  obtain ⟨hil, hiq⟩ := List.getElem?_eq_some_iff.mp hq
  have below : ∀ e ∈ Kp, ∀ u, sle e.2.2 u → slt u q.2.2 → ∃ m, m < i ∧ Kp[m]? = some e := fun e he u h1 h2 => by
    obtain ⟨m, hm⟩ := List.getElem?_of_mem he
    obtain ⟨hml, hme⟩ := List.getElem?_eq_some_iff.mp hm
    refine ⟨m, ?_, hm⟩
    rcases Nat.lt_or_ge m i with h | h
    · exact h
    · exfalso
      have h3 : slt e.2.2 q.2.2 := sle_slt h1 h2
      rcases Nat.lt_or_eq_of_le h with h | h
      · have := List.pairwise_iff_getElem.mp P.inc i m hil hml h
        rw [hiq, hme] at this
        exact slt_asymm h3 this
      · subst h
        rw [hm] at hq; cases hq
        exact slt_irrefl _ h3
  refine P.gen (fun u => sle u v) (fun m e c u hm hc h1 h2 => ?_) (fun u x h => sle_trans (.inr (slt_prefix u x)) h) v.length v rfl ok (.inl rfl) f fun e he hle => ?_
  · rcases Nat.lt_or_ge m k with h | h
    · exact .inl h
    · exfalso
      obtain ⟨hml, hme⟩ := List.getElem?_eq_some_iff.mp hm
      obtain ⟨qk, hqk⟩ : ∃ qk, Kp[k]? = some qk := ⟨_, List.getElem?_eq_getElem (by omega)⟩
      obtain ⟨hkl, hke⟩ := List.getElem?_eq_some_iff.mp hqk
      have hkm : sle qk.2.2 e.2.2 := by
        rcases Nat.lt_or_eq_of_le h with h | h
        · have := List.pairwise_iff_getElem.mp P.inc k m hkl hml h
          rw [hke, hme] at this
          exact .inr this
        · subst h
          rw [hm] at hqk; cases hqk; exact .inl rfl
      have hku := sle_trans hkm h1
      have h3 : sle (qk.2.2 ++ [((0 : Nat) : Int)]) (u ++ [(c : Int)]) := by
        rcases hku with h | h
        · rw [h]
          by_cases hc0 : c = 0
          · subst hc0; exact .inl rfl
          · exact .inr (slt_last _ (by omega))
        · exact .inr (slt_snoc h _ _)
      have h4 := P.ahead q (List.mem_of_getElem? hq) qk hqk
      have h5 : slt v v := sle_slt (.inl rfl) (slt_trans hv (by
        rcases sle_trans h3 h2 with h6 | h6
        · rw [← h6]; exact h4
        · exact slt_trans h4 h6))
      exact slt_irrefl _ h5
  · obtain ⟨m, hm, he'⟩ := below e he v hle hv
    exact hf m e hm he'
end My
/-! ### list comprehensions with one test -/
namespace PySem
open PySem.Spec PyProof.Rows
section
variable {prog : Program} {w : World} {A : Around} {R : Result → Shared → Prop} {s : Shared}
end
end PySem
namespace L2
open PySem PySem.Spec PyProof.Rows
def CompI (caps : List (Option Nat)) (g : TG) (tt : TT) (te : TE) (σ : St) (Q : VK) (J : It) (H1 : Hp) : Prop := ∀ acc, H1 acc = none → ∃ W : Nat → Nat → List V → Hp → Prop, (∃ m, W 0 m [] (upd H1 acc (.lst []))) ∧ ∀ i m ys H, W i m ys H →
  (J.stop i H ∧ Q (.ref acc) H) ∨ (J.go i H ∧ ∃ N : List V → Hp → Prop, (∀ ys' H', N ys' H' → ∃ m', m' < m ∧ W (i + 1) m' ys' H') ∧ ∀ x H', J.yld i H x H' → g x (capσ caps σ) H' fun σ2 H2 => Wk (capσ caps σ) σ2 ∧ tt σ2 H2 fun b H3 => if b = true then te σ2 H3 fun y H4 => H4 acc = some (.lst ys) ∧ ys.length < sizeLine ∧ N (ys ++ [y]) (upd H4 acc (.lst (ys ++ [y]))) else N ys H3)
def tCompI (wi : TI) (g : TG) (tt : TT) (te : TE) (caps : List (Option Nat)) : TE := fun σ H Q => wi σ H fun J H1 => CompI caps g tt te σ Q J H1
section
variable {X : Cx} {scope : Scope} {N' : List Str} {caps : List (Option Nat)} {elt cond iter tg : Expr} {pos : Pos} {wi : TI} {g : TG} {tt : TT} {te : TE}
end
end L2
/-! ### try around one call whose value is stored: the names stand as before where it raises -/
namespace L2
open PySem PySem.Spec PyProof.Rows
def PassAt (CX : CXT) (X : Cx) (σ : St) (E : XK) : Prop := ∀ (pins : List (Addr × Obj)) (H : Hp) (s : Shared) (e : Value) (s' : Shared), Inv X pins σ H s → CX X.stack H s E e s' → X.xe e s'
def PEA (X : Cx) (σ : St) (e : Expr) (t : TE) : Prop := ∀ (pins : List (Addr × Obj)) (s : Shared) (H : Hp) (Q : VK), Inv X pins σ H s → t σ H Q → wpAny (model X.prog X.w) X.A (eval e X.env) (EP X pins σ Q) X.xe s
def PSsA (X : Cx) (σ : St) (st : List Stmt) (t : TS) : Prop := ∀ (pins : List (Addr × Obj)) (s : Shared) (H : Hp) (D : Ends), Inv X pins σ H s → t D σ H → wpAny (model X.prog X.w) X.A (execs st X.env) (SP X pins D) X.xe s
section
variable {X : Cx} {CX : CXT} {k : Nat} {f C : Addr} {fd : FuncData} {ps : List Str} {sp : Sp} {dvs : List V} {ds : List Value} {E : XK} {x m : Str} {p pos apos : Pos} {e o : Expr} {es : List Expr} {ta : TE} {t : TA}
end
def tTryA (tb : XK → TS) (C : Addr) (i : Nat) (ts : TS) : TS := fun D σ H =>
  tb (fun cls _ H' => cls = .ref C ∧ ∀ ea, H' ea = none → ts (suiteEnds i D) (σ.set i (some (.ref ea))) (upd H' ea (.ext (ExcAt ea C)))) D σ H
end L2
/-! ### < of lists of ints; sum of one -/
namespace L2
open PySem PySem.Spec PyProof.Rows
open PySem.AutoSeq1 (wpAny_loadPart')
open PySem.MeetsSeq PySem.MeetsSeq2 PySem.MeetsSeq3 PySem.SeqAt
section
variable {X : Cx} (K : PySem.W.Frag)
end
end L2
namespace My
open PySem L2
/-- how many lit words with n doors lead from each room -/
def cnt (rss : List (List Int)) (ls : List Bool) : Nat → List Int
  | 0 => ls.map fun b => if b = true then 1 else 0
  | n + 1 => rss.map fun row => (row.map fun way => (cnt rss ls n).getD way.toNat 0).sum
def cntAt (rss : List (List Int)) (ls : List Bool) (n : Nat) (r : Int) : Int := (cnt rss ls n).getD r.toNat 0
def below (rss : List (List Int)) (ls : List Bool) (n : Nat) (ways : List Int) : Int := (ways.map (cntAt rss ls n)).sum
def rowAt (rss : List (List Int)) (r : Int) : List Int := rss.getD r.toNat []
def place (rss : List (List Int)) (ls : List Bool) : Int → List Int → Int
  | _, [] => 0
  | r, x :: w => below rss ls w.length ((rowAt rss r).take x.toNat) + place rss ls (step rss r x) w
def litI (ls : List Bool) (i : Int) : Bool := ls.getD i.toNat false
end My
namespace My
open PySem L2
/-- all words with n doors, in order -/
def allW (d : Nat) : Nat → List (List Int)
  | 0 => [[]]
  | n + 1 => (allW d n).flatMap fun w => (List.range d).map fun (x : Nat) => w ++ [(x : Int)]
def nums (n : Int) : List Int := (List.range n.toNat).map fun (i : Nat) => (i : Int)
def litW (rss : List (List Int)) (ls : List Bool) (r : Int) (w : List Int) : Bool := litI ls (walkI rss r w)
end My
namespace My
open PySem L2
def lampI (ls : List Bool) (i : Int) : Bool := ls.getD i.toNat false
/-! two houses behind one another -/
def joinR (rss rss2 : List (List Int)) : List (List Int) := rss ++ rss2.map fun row => row.map fun way => way + (rss.length : Int)
/-! a house with its rooms numbered otherwise -/
def piN (by' m k : Nat) : Nat := if k = 0 then 0 else 1 + (k - 1 + by') % m
def rhoN (by' m j : Nat) : Nat := if j = 0 then 0 else 1 + (j - 1 + (m - by' % m)) % m
def turnRow (b m : Nat) (row : List Int) : List Int := row.map fun to => (piN b m to.toNat : Int)
def turnR (b m i : Nat) (rss : List (List Int)) : List (List Int) := (List.range (m + 1)).map fun j => if rhoN b m j < i then turnRow b m (rss.getD (rhoN b m j) []) else []
def turnL (b m i : Nat) (ls : List Bool) : List Bool := (List.range (m + 1)).map fun j => if rhoN b m j < i then ls.getD (rhoN b m j) false else false
end My
/-! ### try with some handlers, each by its class or one above it -/
namespace L2
open PySem PySem.Spec PyProof.Rows
inductive PHs (X : Cx) (n : Str) : List ExceptHandler → (Addr → TS) → Prop where
  | nil : PHs X n [] (fun _ _ _ _ => False)
  | cons {x : Str} {np : Pos} {C1 : Addr} {b₀ : Stmt} {suite : List Stmt} {hpos : Pos} {ts : TS} {rest : List ExceptHandler} {th : Addr → TS} : Gl X x → X.mg x = some (.ref C1) → (x == ("__debug__" : Str)) = false → (∀ (ea : Addr) (pn : List (Addr × Obj)), PSs (suiteX X ea pn) (b₀ :: suite) ts) → PHs X n rest th →
      PHs X n (.ExceptHandler (some (.Name x np)) (some n) (b₀ :: suite) hpos :: rest) (fun C D σ H => (PySem.W.exmOne X.K (.ref C) (.ref C1) = some true ∧ ts D σ H) ∨ (PySem.W.exmOne X.K (.ref C) (.ref C1) = some false ∧ th C D σ H))
def tTryN (k : Nat) (tb : XK → TS) (i : Nat) (th : Addr → TS) : TS := fun D σ H =>
  tb (fun cls _ H' => ∃ C, cls = .ref C ∧ ∀ ea, H' ea = none → th C (suiteEnds i D) ((List.replicate k none).set i (some (.ref ea))) (upd H' ea (.ext (ExcAt ea C)))) D σ H
end L2
/-! ### the pairs of a dict whose keys are ints and texts, walked; a loop over pairs -/
namespace L2
open PySem PySem.Spec PyProof.Rows
def ThawK (P : Program) (w : World) (d : Addr) (od : Obj) (kvs : List (Key × V)) : Prop := ∀ (H' : Hp) (h : Heap), h.get? d = some od → ObjOk P w H' h d (.dK kvs)
def iItemsK (P : Program) (w : World) (tl : TE) : TI := fun σ H R => tl σ H fun x H1 => ∃ v d kvs, x = .ref v ∧ H1 v = some (.ext (ItemsAt v d)) ∧ H1 d = some (.dK kvs) ∧
  ∀ od, ThawK P w d od kvs → R (Itz d od (kvs.map fun kv => (kV kv.1, kv.2))) (upd H1 d (.ext (HeldAt d od)))
section
variable {X : Cx}
end
section
variable {σ : St} {H : Hp} {tl : TE} {P : Program} {w : World}
end
end L2
namespace My
open PySem L2
def dotF : List Int → (Nat → Int) → Int
  | [], _ => 0
  | c :: cs, f => c * f 0 + dotF cs fun i => f (i + 1)
end My
namespace L2
open PySem PySem.Spec PyProof.Rows
end L2
/-! ### the least lit word -/
namespace My
open PySem L2
end My
set_option maxHeartbeats 1000000
namespace My
open PySem L2 PyProof.Rows
def top (i : Nat) : Stmt := PySem.Challenge.pw_askhouse_k06_rooms_apart.main.body.getD i (.Pass ⟨0, 0, 0, 0⟩)
abbrev s_check_doors : Stmt := top 9
abbrev s_check_house : Stmt := top 10
abbrev s_House_init : Stmt := inClass (top 11) 0
abbrev s_House_rooms : Stmt := inClass (top 11) 1
abbrev s_leader : Stmt := top 13
abbrev s_newly_linked : Stmt := top 14
abbrev s_pairs_behind : Stmt := top 15
abbrev s_parting_word : Stmt := top 16
abbrev s_check_room : Stmt := top 17
abbrev s_apart : Stmt := top 18
abbrev s_l_cell_at : Stmt := top 20
abbrev s_l_draw : Stmt := top 21
abbrev s_l_ways_by : Stmt := top 22
abbrev s_l_lamps_by : Stmt := top 23
abbrev s_l_walk : Stmt := top 24
abbrev s_l_whole : Stmt := top 25
abbrev s_l_is_word : Stmt := top 26
abbrev s_l_part : Stmt := top 27
abbrev s_l_stands_under : Stmt := top 28
abbrev s_l_refused : Stmt := top 29
abbrev s_law : Stmt := top 30
local macro_rules | `(tactic| walk_at "sx") => `(tactic| first
  | with_reducible refine r_seq ?_ | with_reducible refine r_asg ?_ | with_reducible refine r_gname ?_ | with_reducible refine r_gsub ?_ | with_reducible refine r_drop ?_ | with_reducible refine r_ret ?_ | with_reducible refine r_ifs ?_
  | ((with_reducible refine r_var (v := ?v) ?e ?_); (case e => exact rfl))
  | with_reducible refine r_C ?_ | with_reducible refine r_op ?_ | with_reducible refine r_un ?_ | with_reducible refine r_test ?_ | with_reducible refine r_tB ?_ | with_reducible refine r_bl ?_
  | with_reducible refine r_and ?_ | with_reducible refine r_or ?_ | with_reducible refine r_not ?_ | with_reducible refine r_andV ?_ | with_reducible refine r_orV ?_ | with_reducible refine r_notV ?_ | with_reducible refine r_chain ?_
  | with_reducible refine r_call ?_ | with_reducible refine r_cb ?_ | with_reducible refine r_cons ?_ | with_reducible refine r_nil ?_ | with_reducible refine r_next ?_ | with_reducible refine r_lst ?_ | with_reducible refine r_tup ?_
  | with_reducible refine r_for ?_ | with_reducible refine r_rng1 ?_ | with_reducible refine r_rng2 ?_ | with_reducible refine r_ilist ?_ | with_reducible refine r_ienum ?_ | with_reducible refine r_comp ?_ | with_reducible refine r_bm ?_ | with_reducible refine r_meth ?_ | with_reducible refine r_make ?_ | with_reducible refine r_sfld ?_
  | with_reducible refine r_I0 ?_ | with_reducible refine r_U ?_
  | ((with_reducible refine r_I ?c ?_); (case c => first | (show (0 : Int) < _; first | assumption | decide | omega) | exact ⟨by decide, by decide⟩ | exact Or.inl ⟨by decide, by decide⟩ | exact Or.inr ⟨by decide, by decide⟩))
  | with_reducible refine r_raise ?_ | with_reducible refine r_joined ?_ | with_reducible refine r_jstr ?_ | with_reducible refine r_jnil ?_ | with_reducible refine r_jint ?_ | with_reducible refine r_try ?_
  | with_reducible refine r_bm0 ?_ | with_reducible refine r_dget ?_ | with_reducible refine r_din ?_ | with_reducible refine r_dnotin ?_ | with_reducible refine r_dput ?_ | with_reducible refine r_dnew ?_ | with_reducible refine r_sl ?_ | with_reducible refine r_nopart ?_ | with_reducible refine r_part ?_
  | with_reducible refine r_dispT ?_ | with_reducible refine r_jbl ?_ | with_reducible refine r_compI ?_ | with_reducible refine r_ifE ?_ | with_reducible refine r_tryN ?_ | with_reducible refine r_iitemsK ?_ | with_reducible refine r_tryA ?_ | with_reducible refine r_thaw ?_ | with_reducible refine r_iitems ?_ | with_reducible refine r_dget1 ?_ | with_reducible refine r_dnewT ?_
  | with_reducible refine r_snx ?_ | with_reducible refine r_srt ?_
  | with_reducible refine r_nx ?_ | with_reducible refine r_rt ?_)

def nthS (b : List Stmt) (i : Nat) : Stmt := b.getD i (.Pass ⟨0, 0, 0, 0⟩)
def thenS : Stmt → List Stmt
  | .If _ b _ _ => b
  | _ => []
def elseS : Stmt → List Stmt
  | .If _ _ b _ => b
  | _ => []
def valS : Stmt → Expr
  | .Assign _ v _ => v
  | _ => .Constant .none 0 ⟨0, 0, 0, 0⟩
def scE (d : Scope) : Expr → Scope
  | .ListComp _ _ sc _ => sc
  | _ => d
theorem ki_ib (K : PySem.W.Frag) : PySem.W.kitOne K (.type "int") (.type "bool") = some false := by
  first
  | rfl
  | (show (if (Value.type "int" == Value.type "bool") = true then some true else if PySem.W.kitMeta "bool" = true then PySem.W.subIn K (.type "int") (.type "bool") else Option.none) = some false
     rw [if_neg (by decide +kernel), if_pos (by decide +kernel)]
     first | rfl | decide +kernel | (unfold PySem.W.subIn; rfl))
/-! ### data in the heap -/
structure Mat (H : Hp) (a : Addr) (rs : List Addr) (rss : List (List Int)) : Prop where
  top : H a = some (.lst (rs.map V.ref))
  len : rs.length = rss.length
  row : ∀ (i : Nat) (r : Addr) (row : List Int), rs[i]? = some r → rss[i]? = some row → H r = some (.lst (row.map V.int))
  nd : (a :: rs).Nodup
theorem Mat.same {H H' : Hp} {a : Addr} {rs : List Addr} {rss : List (List Int)} (e : Same H H') (m : Mat H a rs rss) : Mat H' a rs rss :=
  ⟨e _ _ m.top, m.len, fun i r row h1 h2 => e _ _ (m.row i r row h1 h2), m.nd⟩
theorem Mat.get {H : Hp} {a : Addr} {rs : List Addr} {rss : List (List Int)} (m : Mat H a rs rss) {i : Nat} {row : List Int} (h : rss[i]? = some row) :
    ∃ r, rs[i]? = some r ∧ (rs.map V.ref)[i]? = some (.ref r) ∧ H r = some (.lst (row.map V.int)) := by
  obtain ⟨hi, _⟩ := List.getElem?_eq_some_iff.mp h
  have hr : i < rs.length := by rw [m.len]; exact hi
  refine ⟨rs[i], List.getElem?_eq_getElem hr, ?_, m.row i _ row (List.getElem?_eq_getElem hr) h⟩
  rw [List.getElem?_map, List.getElem?_eq_getElem hr]; rfl
theorem Mat.upd {H : Hp} {a : Addr} {rs : List Addr} {rss : List (List Int)} (m : Mat H a rs rss) {b : Addr} {o : HO} (hb : b ∉ a :: rs) : Mat (upd H b o) a rs rss := by
  refine ⟨?_, m.len, fun i r row h1 h2 => ?_, m.nd⟩
  · rw [upd_ne (fun z => hb (by rw [← z]; exact List.mem_cons_self))]; exact m.top
  · rw [upd_ne (fun z => hb (by rw [← z]; exact List.mem_cons_of_mem _ (List.mem_of_getElem? h1)))]; exact m.row i r row h1 h2
theorem Mat.mem {H : Hp} {a : Addr} {rs : List Addr} {rss : List (List Int)} (m : Mat H a rs rss) {b : Addr} (hb : b ∈ a :: rs) : ∃ o, H b = some o := by
  rcases List.mem_cons.mp hb with rfl | hb
  · exact ⟨_, m.top⟩
  · obtain ⟨i, hi⟩ := List.getElem?_of_mem hb
    obtain ⟨h1, _⟩ := List.getElem?_eq_some_iff.mp hi
    have h2 : i < rss.length := by rw [← m.len]; exact h1
    exact ⟨_, m.row i b rss[i] hi (List.getElem?_eq_getElem h2)⟩
theorem int_map_get {ns : List Int} {i : Nat} {x : Int} (h : ns[i]? = some x) : (ns.map V.int)[i]? = some (.int x) := by rw [List.getElem?_map, h]; rfl
theorem int_map_inv {ns : List Int} {i : Nat} {x : V} (h : (ns.map V.int)[i]? = some x) : ∃ n, x = .int n ∧ ns[i]? = some n := by
  rw [List.getElem?_map] at h
  cases e : ns[i]? with
  | none => rw [e] at h; cases h
  | some n => rw [e] at h; cases h; exact ⟨n, rfl, rfl⟩
theorem bl_map_get {ns : List Bool} {i : Nat} {x : Bool} (h : ns[i]? = some x) : (ns.map V.bl)[i]? = some (.bl x) := by rw [List.getElem?_map, h]; rfl
theorem ref_map_inv {ns : List Addr} {i : Nat} {x : V} (h : (ns.map V.ref)[i]? = some x) : ∃ n, x = .ref n ∧ ns[i]? = some n := by
  rw [List.getElem?_map] at h
  cases e : ns[i]? with
  | none => rw [e] at h; cases h
  | some n => rw [e] at h; cases h; exact ⟨n, rfl, rfl⟩
/-- the fields of a house -/
def hfs (d : Int) (aw al : Addr) : List (Str × V) := putF "lamps" (.ref al) (putF "ways" (.ref aw) (putF "doors" (.int d) []))
theorem s_lw : ¬ (("lamps" : Str) = "ways") := by decide +kernel
theorem hfs_ways (d : Int) (aw al : Addr) : (hfs d aw al).lookup ("ways" : Str) = some (.ref aw) := by
  unfold hfs; rw [lookup_putF, if_neg (fun z => s_lw z.symm), lookup_putF, if_pos rfl]
theorem hfs_lamps (d : Int) (aw al : Addr) : (hfs d aw al).lookup ("lamps" : Str) = some (.ref al) := by
  unfold hfs; rw [lookup_putF, if_pos rfl]
theorem hfs_no (d : Int) (aw al : Addr) {m : Str} (h1 : ¬ m = "lamps") (h2 : ¬ m = "ways") (h3 : ¬ m = "doors") : (hfs d aw al).lookup m = none := by
  unfold hfs; rw [lookup_putF, if_neg h1, lookup_putF, if_neg h2, lookup_putF, if_neg h3]; rfl
structure HouseAt (C : Addr) (H : Hp) (p : Addr) (d : Int) (aw : Addr) (rs : List Addr) (rss : List (List Int)) (al : Addr) (ls : List Bool) : Prop where
  ob : ∃ dx, H p = some (.ins C dx (hfs d aw al))
  ways : Mat H aw rs rss
  lamps : H al = some (.lst (ls.map V.bl))
theorem HouseAt.same {C : Addr} {H H' : Hp} {p : Addr} {d : Int} {aw : Addr} {rs : List Addr} {rss : List (List Int)} {al : Addr} {ls : List Bool} (e : Same H H') (h : HouseAt C H p d aw rs rss al ls) : HouseAt C H' p d aw rs rss al ls :=
  ⟨let ⟨dx, q⟩ := h.ob; ⟨dx, e _ _ q⟩, h.ways.same e, e _ _ h.lamps⟩
/-- between two turns: the rows so far -/
structure Grown (H H' : Hp) (l : Addr) (rs : List Addr) (f : Nat → List Int) : Prop where
  top : H' l = some (.lst (rs.map V.ref))
  row : ∀ (j : Nat) (b : Addr), rs[j]? = some b → H' b = some (.lst ((f j).map V.int))
  nd : (l :: rs).Nodup
  new : ∀ b ∈ l :: rs, H b = none
  same : Same H H'
theorem Grown.start {H : Hp} {l : Addr} {f : Nat → List Int} (hl : H l = none) : Grown H (upd H l (.lst [])) l [] f :=
  ⟨upd_same, fun j b h => by simp at h, by simp, fun b hb => by rw [List.mem_singleton.mp hb]; exact hl, Same.upd_new hl⟩
theorem Grown.fresh {H H' : Hp} {l : Addr} {rs : List Addr} {f : Nat → List Int} (G : Grown H H' l rs f) {p : Addr} (hp : H' p = none) : p ∉ l :: rs := fun hm => by
  rcases List.mem_cons.mp hm with rfl | hm
  · rw [G.top] at hp; cases hp
  · obtain ⟨j, hj⟩ := List.getElem?_of_mem hm
    rw [G.row j p hj] at hp; cases hp
theorem Grown.snoc {H H' : Hp} {l p : Addr} {rs : List Addr} {f : Nat → List Int} (G : Grown H H' l rs f) (hp : H' p = none) :
    Grown H (upd (upd H' p (.lst ((f rs.length).map V.int))) l (.lst (rs.map V.ref ++ [.ref p]))) l (rs ++ [p]) f := by
  have np := G.fresh hp
  have hpl : p ≠ l := fun z => np (by rw [z]; exact List.mem_cons_self)
  have nl : l ∉ rs := (List.nodup_cons.mp G.nd).1
  refine ⟨?_, fun j b hj => ?_, ?_, fun b hb => ?_, fun b o e => ?_⟩
  · rw [upd_same, List.map_append]; rfl
  · have hbl : b ≠ l := fun z => by
      have hm := List.mem_of_getElem? hj
      rcases List.mem_append.mp hm with hm | hm
      · exact nl (z ▸ hm)
      · exact hpl ((List.mem_singleton.mp hm).symm.trans z)
    rw [upd_ne hbl]
    by_cases hlt : j < rs.length
    · rw [List.getElem?_append_left hlt] at hj
      have hbp : b ≠ p := fun z => np (List.mem_cons_of_mem _ (z ▸ List.mem_of_getElem? hj))
      rw [upd_ne hbp]; exact G.row j b hj
    · obtain ⟨hj1, _⟩ := List.getElem?_eq_some_iff.mp hj
      have hj2 : j = rs.length := by rw [List.length_append, List.length_singleton] at hj1; omega
      subst hj2
      rw [List.getElem?_append_right (Nat.le_refl _), Nat.sub_self] at hj
      cases hj
      rw [upd_same]
  · have : (l :: (rs ++ [p])).Nodup := by
      rw [← List.cons_append]
      exact nd_snoc G.nd np
    exact this
  · have hb : b ∈ (l :: rs) ++ [p] := hb
    rcases List.mem_append.mp hb with hb | hb
    · exact G.new b hb
    · rw [List.mem_singleton.mp hb]; exact G.same.free hp
  · have hbl : b ≠ l := ne_of_none e (G.new l List.mem_cons_self)
    have e' := G.same b o e
    rw [upd_ne hbl, upd_ne (ne_of_none e' hp)]
    exact e'
theorem Grown.mat {H H' : Hp} {l : Addr} {rs : List Addr} {f : Nat → List Int} (G : Grown H H' l rs f) : Mat H' l rs ((List.range rs.length).map f) :=
  ⟨G.top, by simp, fun i r row h1 h2 => by
    rw [List.getElem?_map] at h2
    obtain ⟨hi, _⟩ := List.getElem?_eq_some_iff.mp h1
    rw [List.getElem?_range hi] at h2
    cases h2
    exact G.row i r h1, G.nd⟩
/-- [list(row) for row in ways] -/
theorem comp_copy {K : PySem.W.Frag} {H : Hp} {a : Addr} {rs : List Addr} {rss : List (List Int)} {σ : L2.St} {Q : VK} (M : Mat H a rs rss) (h900 : rss.length ≤ 900)
    (q : ∀ aw rs' H', Same H H' → Mat H' aw rs' rss → (∀ b ∈ aw :: rs', H b = none) → Q (.ref aw) H') :
    CompR [none] (gName 0) (tCB (fun xs H Q => ∃ p ys, xs = [.ref p] ∧ (SqL K H p ys ∨ SqT K H p ys) ∧ ∀ l, H l = none → Q (.ref l) (upd H l (.lst ys))) (tCons (tVar 0) tNil)) σ Q (Itl K a) H := by
  refine comp_list (xs := rs.map V.ref) (fun aw i ys H' => ∃ rs', ys = rs'.map V.ref ∧ rs'.length = i ∧ Grown H H' aw rs' (fun j => rss.getD j [])) (fun aw haw => ⟨[], rfl, rfl, Grown.start haw⟩) (fun aw i ys H' haw _ p => by obtain ⟨rs', _, _, G⟩ := p; exact SqL.of (G.same _ _ M.top)) (fun aw i x ys H' haw hx p => ?_) (fun aw ys H' haw p => ?_)
  · obtain ⟨rs', rfl, hlen, G⟩ := p
    obtain ⟨r, rfl, hr'⟩ := ref_map_inv hx
    obtain ⟨hi, _⟩ := List.getElem?_eq_some_iff.mp hr'
    have hi' : i < rss.length := by rw [← M.len]; exact hi
    have hrow := M.row i r rss[i] hr' (List.getElem?_eq_getElem hi')
    have egd : rss.getD rs'.length [] = rss[i] := by rw [hlen, List.getD_eq_getElem?_getD, List.getElem?_eq_getElem hi', Option.getD_some]
    repeat walk_at "sx"
    refine ⟨Wk.set rfl, ?_⟩
    repeat walk_at "sx"
    refine ⟨r, _, rfl, .inl (SqL.of (G.same _ _ hrow)), fun l0 hl0 => ?_⟩
    have hla : aw ≠ l0 := fun z => G.fresh hl0 (by rw [z]; exact List.mem_cons_self)
    refine ⟨by rw [upd_ne hla]; exact G.top, small1000 (by simp; omega), rs' ++ [l0], by simp, by simp [hlen], ?_⟩
    have := G.snoc hl0
    rw [egd] at this
    exact this
  · obtain ⟨rs', rfl, hlen, G⟩ := p
    have hlen' : rs'.length = rss.length := by rw [hlen, List.length_map, M.len]
    refine q aw rs' H' G.same ?_ G.new
    have := G.mat
    rw [hlen'] at this
    have e : (List.range rss.length).map (fun j => rss.getD j []) = rss := by
      apply List.ext_getElem
      · simp
      · intro i h1 h2
        simp [List.getD_eq_getElem?_getD, List.getElem?_eq_getElem h2]
    rw [e] at this
    exact this

def lI (row : List Int) : PyData := .list (row.map PyData.int)
/-- w parts the two, and no word ahead of it does -/
structure Parts (d : Int) (rss rss2 : List (List Int)) (ls ls2 : List Bool) (a b : Int) (w : List Int) : Prop where
  ok : WordOk d w
  un : lampI ls (walkI rss a w) ≠ lampI ls2 (walkI rss2 b w)
  least : ∀ v, WordOk d v → slt v w → lampI ls (walkI rss a v) = lampI ls2 (walkI rss2 b v)
theorem Parts.uniq {d : Int} {rss rss2 : List (List Int)} {ls ls2 : List Bool} {a b : Int} {v w : List Int} (h1 : Parts d rss rss2 ls ls2 a b v) (h2 : Parts d rss rss2 ls ls2 a b w) : v = w := by
  rcases slt_total v w with h | h | h
  · exact h
  · exact absurd (h2.least v h1.ok h) h1.un
  · exact absurd (h1.least w h2.ok h) h2.un
structure PairIn (d : Int) (rss rss2 : List (List Int)) (ls ls2 : List Bool) (a b : Int) : Prop where
  w1 : Ways d rss
  w2 : Ways d rss2
  l1 : ls.length = rss.length
  l2 : ls2.length = rss2.length
  a0 : 0 ≤ a
  a1 : a < rss.length
  b0 : 0 ≤ b
  b1 : b < rss2.length
  d1 : 1 ≤ d
  d6 : d ≤ 6
  sz : rss.length * rss2.length ≤ 100000
theorem getElem?_snoc {α : Type} {l : List α} {x y : α} {i : Nat} (h : (l ++ [x])[i]? = some y) : (i < l.length ∧ l[i]? = some y) ∨ (i = l.length ∧ y = x) := by
  rcases Nat.lt_or_ge i l.length with hl | hl
  · rw [List.getElem?_append_left hl] at h; exact .inl ⟨hl, h⟩
  · rw [List.getElem?_append_right hl] at h
    have hz : i - l.length = 0 := by
      have := (List.getElem?_eq_some_iff.mp h).1
      simp at this; omega
    rw [hz] at h
    simp at h
    exact .inr ⟨by omega, h.symm⟩
structure Adr where
  C_House : Addr
  C_HouseError : Addr
  C_BadHouse : Addr
  C_BadWord : Addr
  C_NoRoom : Addr
  f_check_doors : Addr
  fd_check_doors : FuncData
  f_check_house : Addr
  fd_check_house : FuncData
  f_House_init : Addr
  fd_House_init : FuncData
  f_House_rooms : Addr
  fd_House_rooms : FuncData
  f_leader : Addr
  fd_leader : FuncData
  f_newly_linked : Addr
  fd_newly_linked : FuncData
  f_pairs_behind : Addr
  fd_pairs_behind : FuncData
  f_parting_word : Addr
  fd_parting_word : FuncData
  f_check_room : Addr
  fd_check_room : FuncData
  f_apart : Addr
  fd_apart : FuncData
  f_l_cell_at : Addr
  fd_l_cell_at : FuncData
  f_l_draw : Addr
  fd_l_draw : FuncData
  f_l_ways_by : Addr
  fd_l_ways_by : FuncData
  f_l_lamps_by : Addr
  fd_l_lamps_by : FuncData
  f_l_walk : Addr
  fd_l_walk : FuncData
  f_l_whole : Addr
  fd_l_whole : FuncData
  f_l_is_word : Addr
  fd_l_is_word : FuncData
  f_l_part : Addr
  fd_l_part : FuncData
  f_l_stands_under : Addr
  fd_l_stands_under : FuncData
  f_l_refused : Addr
  fd_l_refused : FuncData
  f_law : Addr
  fd_law : FuncData
structure Txt (K : PySem.W.Frag) (mg : Str → Option Value) (t : Adr) : Prop where
  m_len : mg "len" = none
  m_range : mg "range" = none
  m_isinstance : mg "isinstance" = none
  m_list : mg "list" = none
  m_int : mg "int" = none
  m_bool : mg "bool" = none
  m_enumerate : mg "enumerate" = none
  m_min : mg "min" = none
  m_ValueError : mg "ValueError" = none
  mg_MOST_DOORS : ∃ tk, mg "MOST_DOORS" = some (.int 6 tk)
  mg_MOST_ROOMS : ∃ tk, mg "MOST_ROOMS" = some (.int 400 tk)
  mg_House : mg "House" = some (.ref t.C_House)
  cl_House : Cls K t.C_House
  tc_House : PySem.W.findIn K (.ref t.C_House) "__class__" = some (some (.builtin "object.__class__"))
  tm_House : PySem.W.mroIn K t.C_House (.type "object") = some true
  na_House_doors : NoAttr K t.C_House "doors"
  na_House_ways : NoAttr K t.C_House "ways"
  na_House_lamps : NoAttr K t.C_House "lamps"
  mg_HouseError : mg "HouseError" = some (.ref t.C_HouseError)
  ex_HouseError : ExcK K "HouseError" t.C_HouseError
  cl_HouseError : PySem.W.isClsIn K t.C_HouseError = true
  ty_HouseError : PySem.W.typeIn K (.ref t.C_HouseError) = some (.type "type")
  mv_HouseError : PySem.W.mroIn K t.C_HouseError (.type "ValueError") = some true
  ms_HouseError : PySem.W.mroIn K t.C_HouseError (.ref t.C_HouseError) = some true
  mg_BadHouse : mg "BadHouse" = some (.ref t.C_BadHouse)
  ex_BadHouse : ExcK K "BadHouse" t.C_BadHouse
  cl_BadHouse : PySem.W.isClsIn K t.C_BadHouse = true
  ty_BadHouse : PySem.W.typeIn K (.ref t.C_BadHouse) = some (.type "type")
  mv_BadHouse : PySem.W.mroIn K t.C_BadHouse (.type "ValueError") = some true
  ms_BadHouse : PySem.W.mroIn K t.C_BadHouse (.ref t.C_BadHouse) = some true
  mg_BadWord : mg "BadWord" = some (.ref t.C_BadWord)
  ex_BadWord : ExcK K "BadWord" t.C_BadWord
  cl_BadWord : PySem.W.isClsIn K t.C_BadWord = true
  ty_BadWord : PySem.W.typeIn K (.ref t.C_BadWord) = some (.type "type")
  mv_BadWord : PySem.W.mroIn K t.C_BadWord (.type "ValueError") = some true
  ms_BadWord : PySem.W.mroIn K t.C_BadWord (.ref t.C_BadWord) = some true
  mg_NoRoom : mg "NoRoom" = some (.ref t.C_NoRoom)
  ex_NoRoom : ExcK K "NoRoom" t.C_NoRoom
  cl_NoRoom : PySem.W.isClsIn K t.C_NoRoom = true
  ty_NoRoom : PySem.W.typeIn K (.ref t.C_NoRoom) = some (.type "type")
  mv_NoRoom : PySem.W.mroIn K t.C_NoRoom (.type "ValueError") = some true
  ms_NoRoom : PySem.W.mroIn K t.C_NoRoom (.ref t.C_NoRoom) = some true
  mr_HouseError_NoRoom : PySem.W.mroIn K t.C_HouseError (.ref t.C_NoRoom) = some false
  mr_NoRoom_HouseError : PySem.W.mroIn K t.C_NoRoom (.ref t.C_HouseError) = some true
  mr_NoRoom_BadHouse : PySem.W.mroIn K t.C_NoRoom (.ref t.C_BadHouse) = some false
  mr_NoRoom_BadWord : PySem.W.mroIn K t.C_NoRoom (.ref t.C_BadWord) = some false
  tg : PySem.W.specialIn K (.builtin "object.__class__") "__get__" = some (some (.builtin "getset_descriptor.__get__"))
  tt : PySem.W.takesIn K (.builtin "object.__class__") = some true
  mg_check_doors : mg "check_doors" = some (.ref t.f_check_doors)
  F_check_doors : Fun K "check_doors" "check_doors" s_check_doors t.f_check_doors t.fd_check_doors
  mg_check_house : mg "check_house" = some (.ref t.f_check_house)
  F_check_house : Fun K "check_house" "check_house" s_check_house t.f_check_house t.fd_check_house
  F_House_init : Fun K "__init__" "House.__init__" s_House_init t.f_House_init t.fd_House_init
  mk_House : Mk K t.C_House t.f_House_init
  F_House_rooms : Fun K "rooms" "House.rooms" s_House_rooms t.f_House_rooms t.fd_House_rooms
  me_House_rooms : Meth K t.C_House "rooms" t.f_House_rooms
  mg_leader : mg "leader" = some (.ref t.f_leader)
  F_leader : Fun K "leader" "leader" s_leader t.f_leader t.fd_leader
  mg_newly_linked : mg "newly_linked" = some (.ref t.f_newly_linked)
  F_newly_linked : Fun K "newly_linked" "newly_linked" s_newly_linked t.f_newly_linked t.fd_newly_linked
  mg_pairs_behind : mg "pairs_behind" = some (.ref t.f_pairs_behind)
  F_pairs_behind : Fun K "pairs_behind" "pairs_behind" s_pairs_behind t.f_pairs_behind t.fd_pairs_behind
  mg_parting_word : mg "parting_word" = some (.ref t.f_parting_word)
  F_parting_word : Fun K "parting_word" "parting_word" s_parting_word t.f_parting_word t.fd_parting_word
  mg_check_room : mg "check_room" = some (.ref t.f_check_room)
  F_check_room : Fun K "check_room" "check_room" s_check_room t.f_check_room t.fd_check_room
  mg_apart : mg "apart" = some (.ref t.f_apart)
  F_apart : Fun K "apart" "apart" s_apart t.f_apart t.fd_apart
  mg_l_cell_at : mg "_law_cell_at" = some (.ref t.f_l_cell_at)
  F_l_cell_at : Fun K "_law_cell_at" "_law_cell_at" s_l_cell_at t.f_l_cell_at t.fd_l_cell_at
  mg_l_draw : mg "_law_draw" = some (.ref t.f_l_draw)
  F_l_draw : Fun K "_law_draw" "_law_draw" s_l_draw t.f_l_draw t.fd_l_draw
  mg_l_ways_by : mg "_law_ways_by" = some (.ref t.f_l_ways_by)
  F_l_ways_by : Fun K "_law_ways_by" "_law_ways_by" s_l_ways_by t.f_l_ways_by t.fd_l_ways_by
  mg_l_lamps_by : mg "_law_lamps_by" = some (.ref t.f_l_lamps_by)
  F_l_lamps_by : Fun K "_law_lamps_by" "_law_lamps_by" s_l_lamps_by t.f_l_lamps_by t.fd_l_lamps_by
  mg_l_walk : mg "_law_walk" = some (.ref t.f_l_walk)
  F_l_walk : Fun K "_law_walk" "_law_walk" s_l_walk t.f_l_walk t.fd_l_walk
  mg_l_whole : mg "_law_whole" = some (.ref t.f_l_whole)
  F_l_whole : Fun K "_law_whole" "_law_whole" s_l_whole t.f_l_whole t.fd_l_whole
  mg_l_is_word : mg "_law_is_word" = some (.ref t.f_l_is_word)
  F_l_is_word : Fun K "_law_is_word" "_law_is_word" s_l_is_word t.f_l_is_word t.fd_l_is_word
  mg_l_part : mg "_law_part" = some (.ref t.f_l_part)
  F_l_part : Fun K "_law_part" "_law_part" s_l_part t.f_l_part t.fd_l_part
  mg_l_stands_under : mg "_law_stands_under" = some (.ref t.f_l_stands_under)
  F_l_stands_under : Fun K "_law_stands_under" "_law_stands_under" s_l_stands_under t.f_l_stands_under t.fd_l_stands_under
  mg_l_refused : mg "_law_refused" = some (.ref t.f_l_refused)
  F_l_refused : Fun K "_law_refused" "_law_refused" s_l_refused t.f_l_refused t.fd_l_refused
  mg_law : mg "law" = some (.ref t.f_law)
  F_law : Fun K "law" "law" s_law t.f_law t.fd_law
section
variable {P : Program} {w : World} {K : PySem.W.Frag} {mg : Str → Option Value} {base : Heap} {t : Adr}
/-! #### check_doors -/
theorem sc_check_doors : FnScope ["doors"] ["doors"] (defScope s_check_doors) := ⟨rfl, rfl, rfl, by decide +kernel, rfl, by decide +kernel, by decide +kernel⟩
theorem b_check_doors (T : Txt K mg t) : Binds K t.fd_check_doors ["doors"] [] := T.F_check_doors.binds fun _ _ _ _ _ _ us hl => match us, hl with | [_], _ => rfl
def sp_check_doors : Sp := fun vs H Q _ => ∃ d : Int, vs = [.int d] ∧ 1 ≤ d ∧ d ≤ 6 ∧ Q .non H
theorem ok_check_doors (T : Txt K mg t) : FnOk P w K mg base CX0 1 t.f_check_doors t.fd_check_doors ["doors"] (sp_check_doors) := by
  refine T.F_check_doors.ok sc_check_doors (fun vs H Q E h => ?_) (fun cdv A outer s H vs Q E hr h => ?_)
  · obtain ⟨d, rfl, _⟩ := h
    rfl
  · obtain ⟨d, rfl, hd1, hd6, q⟩ := h
    refine ⟨_, pss_one (ps_if (pt_not (pt_chain op_le op_le (pe_int) (pv 0) (pe_glob (v := .int 6) rfl T.mg_MOST_DOORS.choose_spec ⟨_, rfl⟩)))
 (pss_one (ps_never))
 (pss_nil)), ?_⟩
    repeat walk_at "sx"
    refine r_iteP (decide_eq_true hd1) ?_
    repeat walk_at "sx"
    refine r_iteN (by simp [hd6]) ?_
    repeat walk_at "sx"
    exact q
/-! #### check_house -/
theorem sc_check_house : FnScope ["doors", "ways", "lamps", "rooms", "room", "row", "way"] ["doors", "ways", "lamps"] (defScope s_check_house) := ⟨rfl, rfl, rfl, by decide +kernel, rfl, by decide +kernel, by decide +kernel⟩
theorem b_check_house (T : Txt K mg t) : Binds K t.fd_check_house ["doors", "ways", "lamps"] [] := T.F_check_house.binds fun _ _ _ _ _ _ us hl => match us, hl with | [_, _, _], _ => rfl
def sp_check_house (K : PySem.W.Frag) : Sp := fun vs H Q _ => ∃ (d : Int) (a : Addr) (rs : List Addr) (rss : List (List Int)) (l : Addr) (ls : List Bool), vs = [.int d, .ref a, .ref l] ∧ Mat H a rs rss ∧ SqL K H l (ls.map V.bl) ∧ Valid d rss ls ∧
  ∀ H', Same H H' → Q .non H'
theorem ok_check_house (T : Txt K mg t) : FnOk P w K mg base CX0 2 t.f_check_house t.fd_check_house ["doors", "ways", "lamps"] (sp_check_house K) := by
  refine T.F_check_house.ok sc_check_house (fun vs H Q E h => ?_) (fun cdv A outer s H vs Q E hr h => ?_)
  · obtain ⟨d, a, rs, rss, l, ls, rfl, _⟩ := h
    rfl
  · obtain ⟨d, a, rs, rss, l, ls, rfl, M, hL, Vd, q⟩ := h
    have hd1 := Vd.d1
    have hd6 := Vd.d6
    have hr1 := Vd.r1
    have hr4 := Vd.r400
    have hll := Vd.ll
    have hlen : (rs.map V.ref).length = rss.length := by rw [List.length_map, M.len]
    refine ⟨_, pss_cons (ps_expr (pe_call (ok_check_doors T) (hr.mono (by decide)) rfl T.mg_check_doors T.F_check_doors.kp (b_check_doors T) .nil pass0 (pa_cons (pv 0) (pa_nil))))
 (pss_cons (ps_set (i := 3) sc_check_house.nd rfl (Or.inl rfl) (pe_callB (call_len_seqK K) rfl T.m_len PySem.boot_len (pa_cons (pv 1) (pa_nil))))
 (pss_cons (ps_if (pt_not (pt_chain op_le op_le (pe_int) (pv 3) (pe_glob (v := .int 400) rfl T.mg_MOST_ROOMS.choose_spec ⟨_, rfl⟩)))
 (pss_one (ps_never))
 (pss_nil))
 (pss_cons (ps_if (pt_cmpR op_ne (pe_callB (call_len_seqK K) rfl T.m_len PySem.boot_len (pa_cons (pv 2) (pa_nil))) (pv 3) (nomark _))
 (pss_one (ps_never))
 (pss_nil))
 (pss_one (ps_for PassesOwn.never rfl (pi_enumK K rfl T.m_enumerate (pa_cons (pv 1) (pa_nil))) (pg_tupK K (n := 2) rfl (pgs_cons (pg_name (i := 4) sc_check_house.nd rfl (Or.inl rfl)) (pgs_cons (pg_name (i := 5) sc_check_house.nd rfl (Or.inl rfl)) (pgs_nil))))
 (pss_cons (ps_if (pt_cmpR op_ne (pe_callB (call_len_seqK K) rfl T.m_len PySem.boot_len (pa_cons (pv 5) (pa_nil))) (pv 0) (nomark _))
 (pss_one (ps_never))
 (pss_nil))
 (pss_one (ps_for PassesOwn.never rfl (pi_listK K (pv 5)) (pg_name (i := 6) sc_check_house.nd rfl (Or.inl rfl))
 (pss_one (ps_if (pt_not (pt_chain op_le op_lt (pe_int) (pv 6) (pv 3)))
 (pss_one (ps_never))
 (pss_nil))))))))))), ?_⟩
    repeat walk_at "sx"
    refine ⟨d, rfl, hd1, hd6, ?_⟩
    repeat walk_at "sx"
    refine ⟨a, _, rfl, .inl (SqL.of M.top), ?_⟩
    rw [hlen]
    repeat walk_at "sx"
    refine r_iteP (decide_eq_true (by omega)) ?_
    repeat walk_at "sx"
    refine r_iteN (by simp; omega) ?_
    repeat walk_at "sx"
    refine ⟨l, _, rfl, .inl hL, ?_⟩
    repeat walk_at "sx"
    refine r_ne rfl ?_
    repeat walk_at "sx"
    refine r_iteN (by simp [hll]) ?_
    repeat walk_at "sx"
    refine ⟨a, rfl, ⟨_, SqL.of M.top⟩, ?_⟩
    refine for_enum (xs := rs.map V.ref) (fun i σ H' => Same H H' ∧ ∃ k1 k2 k3, σ = [some (.int d), some (.ref a), some (.ref l), some (.int (rss.length : Int)), k1, k2, k3]) ⟨Same.refl H, none, none, none, rfl⟩ (fun i σ H' _ p => sqL_same p.1 (SqL.of M.top)) (fun i x σ H' tp hx p ht => ?_) (fun σ H' p => ?_)
    · obtain ⟨hs, k1, k2, k3, rfl⟩ := p
      obtain ⟨r, rfl, hr'⟩ := ref_map_inv hx
      obtain ⟨hi, _⟩ := List.getElem?_eq_some_iff.mp hr'
      have hi' : i < rss.length := by rw [← M.len]; exact hi
      have hrow := M.row i r rss[i] hr' (List.getElem?_eq_getElem hi')
      have hs' : Same H (upd H' tp (.tup [.int (i : Int), .ref r])) := hs.trans (Same.upd_new ht)
      obtain ⟨hw1, hw2⟩ := Vd.row rss[i] (List.getElem_mem hi')
      refine ⟨tp, _, rfl, SqT.of upd_same, rfl, _, _, rfl, ?_⟩
      repeat walk_at "sx"
      refine ⟨_, _, rfl, ?_⟩
      repeat walk_at "sx"
      refine ⟨rfl, ?_⟩
      repeat walk_at "sx"
      refine ⟨r, _, rfl, .inl (SqL.of (hs' _ _ hrow)), ?_⟩
      repeat walk_at "sx"
      refine r_ne rfl ?_
      repeat walk_at "sx"
      refine r_iteN (by simp [hw1]) ?_
      repeat walk_at "sx"
      refine ⟨r, rfl, ⟨_, SqL.of (hs' _ _ hrow)⟩, ?_⟩
      refine for_list (xs := rss[i].map V.int) (fun j σ H2 => H2 = upd H' tp (.tup [.int (i : Int), .ref r]) ∧ ∃ k3, σ = [some (.int d), some (.ref a), some (.ref l), some (.int (rss.length : Int)), some (.int (i : Int)), some (.ref r), k3]) ⟨rfl, _, rfl⟩ (fun j σ H2 _ p => by rw [p.1]; exact SqL.of (hs' _ _ hrow)) (fun j x σ H2 hx p => ?_) (fun σ H2 p => ?_)
      · obtain ⟨rfl, k3, rfl⟩ := p
        have hx0 := int_map_inv hx
        clear hx
        obtain ⟨x, rfl, hx⟩ := hx0
        obtain ⟨x0, x1⟩ := hw2 x (List.mem_of_getElem? hx)
        repeat walk_at "sx"
        refine r_iteP (decide_eq_true x0) ?_
        repeat walk_at "sx"
        refine r_iteN (by simp [x1]) ?_
        repeat walk_at "sx"
        exact ⟨rfl, _, rfl⟩
      · obtain ⟨rfl, k3, rfl⟩ := p
        exact ⟨hs', _, _, _, rfl⟩
    · obtain ⟨hs, k1, k2, k3, rfl⟩ := p
      exact q H' hs
/-! #### House_init -/
theorem sc_House_init : FnScope ["self", "doors", "ways", "lamps"] ["self", "doors", "ways", "lamps"] (defScope s_House_init) := ⟨rfl, rfl, rfl, by decide +kernel, rfl, by decide +kernel, by decide +kernel⟩
theorem b_House_init (T : Txt K mg t) : Binds K t.fd_House_init ["self", "doors", "ways", "lamps"] [] := T.F_House_init.binds fun _ _ _ _ _ _ us hl => match us, hl with | [_, _, _, _], _ => rfl
def sp_House_init (K : PySem.W.Frag) (C : Addr) : Sp := fun vs H Q _ => ∃ (p dx : Addr) (d : Int) (a : Addr) (rs : List Addr) (rss : List (List Int)) (l : Addr) (ls : List Bool), vs = [.ref p, .int d, .ref a, .ref l] ∧ H p = some (.ins C dx []) ∧ Mat H a rs rss ∧ SqL K H l (ls.map V.bl) ∧ Valid d rss ls ∧
  ∀ (H' : Hp) (aw : Addr) (rs' : List Addr) (al : Addr), HouseAt C H' p d aw rs' rss al ls → (∀ b o, H b = some o → b ≠ p → H' b = some o) → (∀ b ∈ al :: aw :: rs', H b = none) → Q .non H'
theorem ok_House_init (T : Txt K mg t) : FnOk P w K mg base CX0 3 t.f_House_init t.fd_House_init ["self", "doors", "ways", "lamps"] (sp_House_init K t.C_House) := by
  refine T.F_House_init.ok sc_House_init (fun vs H Q E h => ?_) (fun cdv A outer s H vs Q E hr h => ?_)
  · obtain ⟨p, dx, d, a, rs, rss, l, ls, rfl, _⟩ := h
    rfl
  · obtain ⟨p, dx, d, a, rs, rss, l, ls, rfl, hp, M, hL, Vd, q⟩ := h
    refine ⟨_, pss_cons (ps_expr (pe_call (ok_check_house T) (hr.mono (by decide)) rfl T.mg_check_house T.F_check_house.kp (b_check_house T) .nil pass0 (pa_cons (pv 1) (pa_cons (pv 2) (pa_cons (pv 3) (pa_nil))))))
 (pss_cons (ps_fldK K (pv 0) (pv 1) rfl)
 (pss_cons (ps_fldK K (pv 0) (pe_comp (N := ["self", "doors", "ways", "lamps"]) (sc0 := (defScope s_House_init)) (N' := ["row"]) (caps := [none]) (by exact ⟨rfl, by decide +kernel, by decide +kernel, by decide +kernel, rfl, rfl, by decide +kernel⟩) rfl (pi_listK K (pv 2)) (fun _ _ _ _ _ _ => pg_name (i := 0) (show List.Nodup (["row"] : List Str) from by decide +kernel) rfl (Or.inl rfl)) (fun _ _ _ _ _ _ => pe_callTy (call_list_ofK K) rfl T.m_list boot_list (pa_cons (pv 0) (pa_nil)))) rfl)
 (pss_one (ps_fldK K (pv 0) (pe_callTy (call_list_ofK K) rfl T.m_list boot_list (pa_cons (pv 3) (pa_nil))) rfl)))), ?_⟩
    repeat walk_at "sx"
    refine ⟨d, a, rs, rss, l, ls, rfl, M, hL, Vd, fun H1 hs1 => ?_⟩
    repeat walk_at "sx"
    refine ⟨p, _, dx, _, rfl, hs1 _ _ hp, T.cl_House, T.na_House_doors, (by show 0 < 1000; decide), ?_⟩
    repeat walk_at "sx"
    -- the heap with the first field stored
    have hpa : ∀ {b : Addr} {xs : List V}, H b = some (.lst xs) → b ≠ p := fun e => ne_of e hp (by intro z; cases z)
    have k1 : ∀ (b : Addr) (o : HO), H b = some o → b ≠ p → (upd H1 p (.ins t.C_House dx (putF "doors" (.int d) []))) b = some o := fun b o e hb => by rw [upd_ne hb]; exact hs1 b o e
    have n1 : ∀ b, (upd H1 p (.ins t.C_House dx (putF "doors" (.int d) []))) b = none → H b = none := fun b e => by
      by_cases hb : b = p
      · subst hb; rw [upd_same] at e; cases e
      · rw [upd_ne hb] at e; exact hs1.free e
    generalize hH2 : upd H1 p (.ins t.C_House dx (putF "doors" (.int d) [])) = H2 at k1 n1 ⊢
    have hp2 : H2 p = some (.ins t.C_House dx (putF "doors" (.int d) [])) := by rw [← hH2]; exact upd_same
    have M2 : Mat H2 a rs rss := ⟨k1 _ _ M.top (hpa M.top), M.len, fun i r row h1 h2 => k1 _ _ (M.row i r row h1 h2) (hpa (M.row i r row h1 h2)), M.nd⟩
    refine ⟨a, rfl, ⟨_, SqL.of M2.top⟩, ?_⟩
    have h400 := Vd.r400
    refine comp_copy M2 (by omega) fun aw rs' H' hs3 M3 new3 => ?_
    have G : Same H2 H' := hs3
    (
      have hp3 : H' p = some (.ins t.C_House dx (putF "doors" (.int d) [])) := G _ _ hp2
      repeat walk_at "sx"
      refine ⟨p, _, dx, _, rfl, hp3, T.cl_House, T.na_House_ways, (by show 1 < 1000; decide), ?_⟩
      repeat walk_at "sx"
      have hl3 : SqL K H l (ls.map V.bl) := hL
      have hlist : SqL K (upd H' p (.ins t.C_House dx (putF "ways" (.ref aw) (putF "doors" (.int d) [])))) l (ls.map V.bl) := by
        rcases hL with (hL | ⟨ob, hL⟩) | hL
        · exact .inl (.inl (by rw [upd_ne (hpa hL)]; exact G _ _ (k1 _ _ hL (hpa hL))))
        · have hne : l ≠ p := ne_of hL hp (by intro z; cases z)
          exact .inl (.inr ⟨ob, by rw [upd_ne hne]; exact G _ _ (k1 _ _ hL hne)⟩)
        · exact .inr hL
      refine ⟨l, _, rfl, .inl hlist, fun al hal => ?_⟩
      repeat walk_at "sx"
      have npa : p ≠ al := fun z => by rw [z, upd_same] at hal; cases hal
      have hal' : H' al = none := by rw [upd_ne (Ne.symm npa)] at hal; exact hal
      refine ⟨p, _, dx, _, rfl, (by rw [upd_ne npa]; exact upd_same), T.cl_House, T.na_House_lamps, (by have h1 := length_putF "ways" (.ref aw) (putF "doors" (.int d) []); have h2 := length_putF "doors" (.int d) []; simp only [List.length_nil] at h2; omega), ?_⟩
      have hpm : p ∉ aw :: rs' := fun hm => by have := new3 p hm; rw [hp2] at this; cases this
      have ham : al ∉ aw :: rs' := fun hm => by obtain ⟨o, e⟩ := M3.mem hm; rw [e] at hal'; cases hal'
      refine q _ aw rs' al ⟨⟨dx, upd_same⟩, ((M3.upd hpm).upd ham).upd hpm, ?_⟩ (fun b o e hb => ?_) (fun b hb => ?_)
      · rw [upd_ne (Ne.symm npa), upd_same]
      · have e2 := G _ _ (k1 b o e hb)
        rw [upd_ne hb, upd_ne (ne_of_none e2 hal'), upd_ne hb]
        exact e2
      · rcases List.mem_cons.mp hb with rfl | hb
        · exact n1 _ (G.free hal')
        · exact n1 _ (new3 b hb)
    )
/-! #### House_rooms -/
theorem sc_House_rooms : FnScope ["self"] ["self"] (defScope s_House_rooms) := ⟨rfl, rfl, rfl, by decide +kernel, rfl, by decide +kernel, by decide +kernel⟩
theorem b_House_rooms (T : Txt K mg t) : Binds K t.fd_House_rooms ["self"] [] := T.F_House_rooms.binds fun _ _ _ _ _ _ us hl => match us, hl with | [_], _ => rfl
def sp_House_rooms (C : Addr) : Sp := fun vs H Q _ => ∃ (p : Addr) (d : Int) (aw : Addr) (rs : List Addr) (rss : List (List Int)) (al : Addr) (ls : List Bool), vs = [.ref p] ∧ HouseAt C H p d aw rs rss al ls ∧ Q (.int rss.length) H
theorem ok_House_rooms (T : Txt K mg t) : FnOk P w K mg base CX0 1 t.f_House_rooms t.fd_House_rooms ["self"] (sp_House_rooms t.C_House) := by
  refine T.F_House_rooms.ok sc_House_rooms (fun vs H Q E h => ?_) (fun cdv A outer s H vs Q E hr h => ?_)
  · obtain ⟨p, d, aw, rs, rss, al, ls, rfl, _⟩ := h
    rfl
  · obtain ⟨p, d, aw, rs, rss, al, ls, rfl, hh, q⟩ := h
    obtain ⟨dx, ho⟩ := hh.ob
    refine ⟨_, pss_one (ps_ret (pe_callB (call_len_seqK K) rfl T.m_len PySem.boot_len (pa_cons (pe_fldK K (pv 0) rfl) (pa_nil)))), ?_⟩
    repeat walk_at "sx"
    refine ⟨_, rfl, p, _, dx, _, _, rfl, ho, T.cl_House, T.na_House_ways, hfs_ways _ _ _, ?_⟩
    repeat walk_at "sx"
    refine ⟨aw, _, rfl, .inl (SqL.of hh.ways.top), ?_⟩
    rw [List.length_map, hh.ways.len]
    exact q
/-! #### leader -/
theorem sc_leader : FnScope ["links", "room"] ["links", "room"] (defScope s_leader) := ⟨rfl, rfl, rfl, by decide +kernel, rfl, by decide +kernel, by decide +kernel⟩
theorem b_leader (T : Txt K mg t) : Binds K t.fd_leader ["links", "room"] [] := T.F_leader.binds fun _ _ _ _ _ _ us hl => match us, hl with | [_, _], _ => rfl
structure UF (ls : List Int) (root dist : Nat → Nat) : Prop where
  rng : ∀ (i : Nat) (x : Int), ls[i]? = some x → 0 ≤ x ∧ x < ls.length
  fall : ∀ (i : Nat) (x : Int), ls[i]? = some x → x ≠ (i : Int) → dist x.toNat < dist i
  same : ∀ (i : Nat) (x : Int), ls[i]? = some x → root x.toNat = root i
  fix : ∀ (i : Nat) (x : Int), ls[i]? = some x → x = (i : Int) → root i = i
theorem UF.halve {ls : List Int} {root dist : Nat → Nat} (U : UF ls root dist) {i j : Nat} {y : Int} (hi : ls[i]? = some (j : Int)) (hj : ls[j]? = some y) (hne : (j : Int) ≠ (i : Int)) : UF (ls.set i y) root dist := by
  have get : ∀ {k : Nat} {x : Int}, (ls.set i y)[k]? = some x → (k = i ∧ x = y) ∨ (k ≠ i ∧ ls[k]? = some x) := fun {k x} h => by
    by_cases e : i = k
    · subst e
      rw [List.getElem?_set] at h
      simp only [if_true] at h
      split at h <;> cases h
      exact .inl ⟨rfl, rfl⟩
    · rw [List.getElem?_set_ne e] at h
      exact .inr ⟨Ne.symm e, h⟩
  have hdj : dist y.toNat ≤ dist j := by
    by_cases e : y = (j : Int)
    · rw [e]; exact Nat.le_of_eq (congrArg dist (by omega))
    · exact Nat.le_of_lt (U.fall j y hj e)
  have hji : dist j < dist i := by have := U.fall i j hi hne; rwa [Int.toNat_natCast] at this
  have hri : root j = root i := by have := U.same i j hi; rwa [Int.toNat_natCast] at this
  refine ⟨fun k x h => ?_, fun k x h hx => ?_, fun k x h => ?_, fun k x h hx => ?_⟩
  · rw [List.length_set]
    rcases get h with ⟨_, rfl⟩ | ⟨_, h⟩
    · exact U.rng j _ hj
    · exact U.rng k x h
  · rcases get h with ⟨rfl, rfl⟩ | ⟨_, h⟩
    · omega
    · exact U.fall k x h hx
  · rcases get h with ⟨rfl, rfl⟩ | ⟨_, h⟩
    · exact (U.same j _ hj).trans hri
    · exact U.same k x h
  · rcases get h with ⟨rfl, rfl⟩ | ⟨_, h⟩
    · exfalso
      have : dist k ≤ dist j := by rw [hx, Int.toNat_natCast] at hdj; exact hdj
      omega
    · exact U.fix k x h hx
def sp_leader : Sp := fun vs H Q _ => ∃ (la : Addr) (ls : List Int) (root dist : Nat → Nat) (r : Nat), vs = [.ref la, .int (r : Int)] ∧ H la = some (.lst (ls.map V.int)) ∧ UF ls root dist ∧ r < ls.length ∧
  ∀ ls', UF ls' root dist → ls'.length = ls.length → root (root r) = root r → root r < ls.length → Q (.int (root r : Int)) (upd H la (.lst (ls'.map V.int)))
theorem ok_leader (T : Txt K mg t) : FnOk P w K mg base CX0 1 t.f_leader t.fd_leader ["links", "room"] (sp_leader) := by
  refine T.F_leader.ok sc_leader (fun vs H Q E h => ?_) (fun cdv A outer s H vs Q E hr h => ?_)
  · obtain ⟨la, ls, root, dist, r, rfl, _⟩ := h
    rfl
  · obtain ⟨la, ls, root, dist, r, rfl, hla, U, hr, q⟩ := h
    refine ⟨_, pss_cons (ps_while PassesOwn.never (pt_cmpR op_ne (pe_ix (ix_listK K) (pv 0) (pv 1) (fun _ _ => rfl)) (pv 1) (nomark _))
 (pss_cons (ps_asg (pe_ix (ix_listK K) (pv 0) (pe_ix (ix_listK K) (pv 0) (pv 1) (fun _ _ => rfl)) (fun _ _ => rfl)) (pg_sub (pv 0) (pv 1) set_list))
 (pss_one (ps_set (i := 1) sc_leader.nd rfl (Or.inl rfl) (pe_ix (ix_listK K) (pv 0) (pv 1) (fun _ _ => rfl))))))
 (pss_one (ps_ret (pv 1))), ?_⟩
    repeat walk_at "sx"
    have hset : ∀ {H' : Hp} {xs : List V}, upd H' la (.lst xs) la = some (.lst xs) := upd_same
    refine ⟨fun m σ H' => ∃ (x : Nat) (ls' : List Int), m = dist x ∧ root x = root r ∧ x < ls.length ∧ UF ls' root dist ∧ ls'.length = ls.length ∧ H' = upd H la (.lst (ls'.map V.int)) ∧ σ = [some (.ref la), some (.int (x : Int))], ⟨_, r, ls, rfl, rfl, hr, U, rfl, ?_, rfl⟩, ?_⟩
    · funext b
      by_cases hb : b = la
      · subst hb; rw [upd_same]; exact hla
      · rw [upd_ne hb]
    rintro m σ H1 ⟨x, ls', rfl, hx, hxl, U', hl', rfl, rfl⟩
    have hxl' : x < ls'.length := by omega
    obtain ⟨y, hy⟩ : ∃ y, ls'[x]? = some y := ⟨_, List.getElem?_eq_getElem hxl'⟩
    obtain ⟨y0, y1⟩ := U'.rng x y hy
    repeat walk_at "sx"
    refine r_ixL (SqL.of upd_same) (atI_nat (j := x) (int_map_get hy)) ?_
    repeat walk_at "sx"
    refine r_ne rfl ?_
    repeat walk_at "sx"
    refine r_ite (fun hc => ?_) (fun hc => ?_)
    · have hc : y ≠ (x : Int) := by intro z; rw [z] at hc; simp at hc
      obtain ⟨j, rfl⟩ : ∃ j : Nat, y = (j : Int) := ⟨y.toNat, by omega⟩
      obtain ⟨z, hz⟩ : ∃ z, ls'[j]? = some z := ⟨_, List.getElem?_eq_getElem (by omega)⟩
      obtain ⟨z0, z1⟩ := U'.rng j z hz
      obtain ⟨zn, rfl⟩ : ∃ zn : Nat, z = (zn : Int) := ⟨z.toNat, by omega⟩
      have Uh := U'.halve hy hz hc
      have d1 := U'.fall x j hy hc
      have r1 := U'.same x j hy
      have r2 := U'.same j zn hz
      rw [Int.toNat_natCast] at d1 r1 r2
      have d2 : dist zn ≤ dist j := by
        by_cases e : (zn : Int) = (j : Int)
        · exact Nat.le_of_eq (congrArg dist (by omega))
        · have := U'.fall j zn hz e
          rw [Int.toNat_natCast] at this; omega
      refine ⟨fun σ' H' => ∃ ls2 : List Int, UF ls2 root dist ∧ ls2.length = ls.length ∧ H' = upd H la (.lst (ls2.map V.int)) ∧ σ' = [some (.ref la), some (.int (zn : Int))], fun σ' H' ⟨ls2, u1, u2, u3, u4⟩ => ⟨dist zn, by omega, zn, ls2, rfl, by rw [r2, r1, hx], by omega, u1, u2, u3, u4⟩, ?_⟩
      repeat walk_at "sx"
      refine r_ixL (SqL.of upd_same) (atI_nat (j := x) (int_map_get hy)) ?_
      repeat walk_at "sx"
      refine r_ixL (SqL.of upd_same) (atI_nat (j := j) (int_map_get hz)) ?_
      repeat walk_at "sx"
      refine ⟨la, _, _, x, rfl, rfl, upd_same, by unfold ixN; rw [if_pos (by omega), if_pos (by rw [List.length_map]; omega)]; simp, ?_⟩
      rw [upd_upd, ← List.map_set]
      repeat walk_at "sx"
      refine r_ixL (SqL.of upd_same) (atI_nat (j := x) (v := .int (zn : Int)) (int_map_get (by rw [List.getElem?_set_self hxl']))) ?_
      repeat walk_at "sx"
      exact ⟨_, Uh, by rw [List.length_set]; exact hl', rfl, rfl⟩
    · have hc : y = (x : Int) := by simpa using hc
      have hf := U'.fix x y hy hc
      repeat walk_at "sx"
      rw [show (x : Int) = (root r : Int) by rw [← hx, hf]]
      exact q ls' U' hl' (by rw [← hx, hf, hf]) (by rw [← hx, hf]; exact hxl)
/-! #### newly_linked -/
theorem sc_newly_linked : FnScope ["links", "one", "other", "first", "second"] ["links", "one", "other"] (defScope s_newly_linked) := ⟨rfl, rfl, rfl, by decide +kernel, rfl, by decide +kernel, by decide +kernel⟩
theorem b_newly_linked (T : Txt K mg t) : Binds K t.fd_newly_linked ["links", "one", "other"] [] := T.F_newly_linked.binds fun _ _ _ _ _ _ us hl => match us, hl with | [_, _, _], _ => rfl
theorem UF.link {ls : List Int} {root dist : Nat → Nat} (U : UF ls root dist) {f g : Nat} (hf : root f = f) (hg : root g = g) (hfl : f < ls.length) (hgl : g < ls.length) :
    ∃ dist', UF (ls.set g (f : Int)) (fun x => if root x = g then f else root x) dist' := by
  have get : ∀ {k : Nat} {x : Int}, (ls.set g (f : Int))[k]? = some x → (k = g ∧ x = (f : Int)) ∨ (k ≠ g ∧ ls[k]? = some x) := fun {k x} h => by
    by_cases e : g = k
    · subst e
      rw [List.getElem?_set] at h
      simp only [if_true] at h
      rw [if_pos hgl] at h
      cases h
      exact .inl ⟨rfl, rfl⟩
    · rw [List.getElem?_set_ne e] at h
      exact .inr ⟨Ne.symm e, h⟩
  by_cases hfg : f = g
  · subst hfg
    refine ⟨dist, ⟨fun k x h => ?_, fun k x h hx => ?_, fun k x h => ?_, fun k x h hx => ?_⟩⟩
    · rw [List.length_set]
      rcases get h with ⟨_, rfl⟩ | ⟨_, h⟩
      · omega
      · exact U.rng k x h
    · rcases get h with ⟨rfl, rfl⟩ | ⟨_, h⟩
      · exact absurd rfl hx
      · exact U.fall k x h hx
    · rcases get h with ⟨rfl, rfl⟩ | ⟨_, h⟩
      · rw [Int.toNat_natCast]
      · rw [U.same k x h]
    · rcases get h with ⟨rfl, rfl⟩ | ⟨_, h⟩
      · rw [if_pos hf]
      · have := U.fix k x h hx
        rw [this]; split <;> simp_all
  · refine ⟨fun x => if root x = g then dist x + dist f + 1 else dist x, ⟨fun k x h => ?_, fun k x h hx => ?_, fun k x h => ?_, fun k x h hx => ?_⟩⟩
    · rw [List.length_set]
      rcases get h with ⟨_, rfl⟩ | ⟨_, h⟩
      · omega
      · exact U.rng k x h
    · rcases get h with ⟨rfl, rfl⟩ | ⟨_, h⟩
      · rw [Int.toNat_natCast, hf, if_neg hfg, if_pos hg]; omega
      · rw [U.same k x h]
        have := U.fall k x h hx
        split <;> omega
    · rcases get h with ⟨rfl, rfl⟩ | ⟨_, h⟩
      · rw [Int.toNat_natCast, hf, if_neg hfg, if_pos hg]
      · rw [U.same k x h]
    · rcases get h with ⟨rfl, rfl⟩ | ⟨hk, h⟩
      · exact absurd (by omega) hfg
      · have := U.fix k x h hx
        rw [this, if_neg hk]
def sp_newly_linked : Sp := fun vs H Q _ => ∃ (la : Addr) (ls : List Int) (root dist : Nat → Nat) (x y : Nat), vs = [.ref la, .int (x : Int), .int (y : Int)] ∧ H la = some (.lst (ls.map V.int)) ∧ UF ls root dist ∧ x < ls.length ∧ y < ls.length ∧
  ∀ ls' dist', UF ls' (fun z => if root z = root y then root x else root z) dist' → ls'.length = ls.length → Q (.bl (!decide (root x = root y))) (upd H la (.lst (ls'.map V.int)))
theorem ok_newly_linked (T : Txt K mg t) : FnOk P w K mg base CX0 2 t.f_newly_linked t.fd_newly_linked ["links", "one", "other"] (sp_newly_linked) := by
  refine T.F_newly_linked.ok sc_newly_linked (fun vs H Q E h => ?_) (fun cdv A outer s H vs Q E hr h => ?_)
  · obtain ⟨la, ls, root, dist, x, y, rfl, _⟩ := h
    rfl
  · obtain ⟨la, ls, root, dist, x, y, rfl, hla, U, hx, hy, q⟩ := h
    refine ⟨_, pss_cons (ps_set (i := 3) sc_newly_linked.nd rfl (Or.inl rfl) (pe_call (ok_leader T) (hr.mono (by decide)) rfl T.mg_leader T.F_leader.kp (b_leader T) .nil pass0 (pa_cons (pv 0) (pa_cons (pv 1) (pa_nil)))))
 (pss_cons (ps_set (i := 4) sc_newly_linked.nd rfl (Or.inl rfl) (pe_call (ok_leader T) (hr.mono (by decide)) rfl T.mg_leader T.F_leader.kp (b_leader T) .nil pass0 (pa_cons (pv 0) (pa_cons (pv 2) (pa_nil)))))
 (pss_cons (ps_asg (pv 3) (pg_sub (pv 0) (pv 4) set_list))
 (pss_one (ps_ret (pe_cmpR op_ne (pv 3) (pv 4) (nomark _)))))), ?_⟩
    repeat walk_at "sx"
    refine ⟨la, ls, root, dist, x, rfl, hla, U, hx, fun l1 U1 h1 rr1 rl1 => ?_⟩
    repeat walk_at "sx"
    refine ⟨la, l1, root, dist, y, rfl, upd_same, U1, by omega, fun l2 U2 h2 rr2 rl2 => ?_⟩
    rw [upd_upd]
    repeat walk_at "sx"
    refine ⟨la, _, _, root y, rfl, rfl, upd_same, by unfold ixN; rw [if_pos (by omega), if_pos (by rw [List.length_map]; omega)]; simp, ?_⟩
    rw [upd_upd, ← List.map_set]
    repeat walk_at "sx"
    refine r_ne rfl ?_
    obtain ⟨dist', U'⟩ := U2.link rr1 rr2 (by omega) (by omega)
    have e : (!decide ((V.int (root x : Int)) = V.int (root y : Int))) = !decide (root x = root y) := by
      by_cases z : root x = root y
      · simp [z]
      · have z' : ¬ ((root x : Int) = (root y : Int)) := by omega
        simp [z, z']
    rw [e]
    exact q _ dist' U' (by rw [List.length_set]; omega)
/-! #### pairs_behind -/
theorem sc_pairs_behind : FnScope ["ways", "pairs", "links", "further", "one", "other", "word", "door", "way"] ["ways", "pairs", "links"] (defScope s_pairs_behind) := ⟨rfl, rfl, rfl, by decide +kernel, rfl, by decide +kernel, by decide +kernel⟩
theorem b_pairs_behind (T : Txt K mg t) : Binds K t.fd_pairs_behind ["ways", "pairs", "links"] [] := T.F_pairs_behind.binds fun _ _ _ _ _ _ us hl => match us, hl with | [_, _, _], _ => rfl
theorem UF.idem {ls : List Int} {root dist : Nat → Nat} (U : UF ls root dist) : ∀ (n r : Nat), dist r ≤ n → r < ls.length → root (root r) = root r ∧ root r < ls.length := by
  intro n
  induction n with
  | zero =>
    intro r hd hr
    obtain ⟨x, hx⟩ : ∃ x, ls[r]? = some x := ⟨_, List.getElem?_eq_getElem hr⟩
    by_cases e : x = (r : Int)
    · have := U.fix r x hx e; rw [this, this]; exact ⟨rfl, hr⟩
    · have := U.fall r x hx e; omega
  | succ n ih =>
    intro r hd hr
    obtain ⟨x, hx⟩ : ∃ x, ls[r]? = some x := ⟨_, List.getElem?_eq_getElem hr⟩
    by_cases e : x = (r : Int)
    · have := U.fix r x hx e; rw [this, this]; exact ⟨rfl, hr⟩
    · have h1 := U.fall r x hx e
      have h2 := U.rng r x hx
      have h3 := ih x.toNat (by omega) (by omega)
      rw [U.same r x hx] at h3; exact h3
/-- a list of kept pairs: tuples (one, other, word) -/
structure TripAt (H : Hp) (pa : Addr) (ts ws : List Addr) (T : List Tri) : Prop where
  top : H pa = some (.lst (ts.map V.ref))
  lt : ts.length = T.length
  lw : ws.length = T.length
  trip : ∀ (i : Nat) (t w : Addr) (e : Tri), ts[i]? = some t → ws[i]? = some w → T[i]? = some e → H t = some (.tup [.int e.1, .int e.2.1, .ref w])
  word : ∀ (i : Nat) (w : Addr) (e : Tri), ws[i]? = some w → T[i]? = some e → H w = some (.lst (e.2.2.map V.int))
  out : pa ∉ ws
theorem TripAt.same {H H' : Hp} {pa : Addr} {ts ws : List Addr} {T : List Tri} (A : TripAt H pa ts ws T) (s : Same H H') : TripAt H' pa ts ws T :=
  ⟨s _ _ A.top, A.lt, A.lw, fun i t w e h1 h2 h3 => s _ _ (A.trip i t w e h1 h2 h3), fun i w e h1 h2 => s _ _ (A.word i w e h1 h2), A.out⟩
theorem TripAt.keep {H H' : Hp} {pa la : Addr} {ts ws : List Addr} {T : List Tri} (A : TripAt H pa ts ws T) (k : ∀ b o, b ≠ la → H b = some o → H' b = some o) (hp : pa ≠ la) (hw : la ∉ ws) (ht : la ∉ ts) : TripAt H' pa ts ws T :=
  ⟨k _ _ hp A.top, A.lt, A.lw, fun i t w e h1 h2 h3 => k _ _ (fun z => ht (z ▸ List.mem_of_getElem? h1)) (A.trip i t w e h1 h2 h3), fun i w e h1 h2 => k _ _ (fun z => hw (z ▸ List.mem_of_getElem? h1)) (A.word i w e h1 h2), A.out⟩
theorem TripAt.add {H' H3 : Hp} {fa w2 t2 : Addr} {ts ws : List Addr} {T : List Tri} (A : TripAt H' fa ts ws T) {e : Tri} (s : Same H' H3) (hw : H' w2 = none) (ht : H' t2 = none) (hw3 : H3 w2 = some (.lst (e.2.2.map V.int))) (ht3 : H3 t2 = some (.tup [.int e.1, .int e.2.1, .ref w2])) :
    TripAt (upd H3 fa (.lst (ts.map V.ref ++ [.ref t2]))) fa (ts ++ [t2]) (ws ++ [w2]) (T ++ [e]) := by
  have wf : w2 ≠ fa := fun z => by have := A.top; rw [← z, hw] at this; cases this
  have tf : t2 ≠ fa := fun z => by have := A.top; rw [← z, ht] at this; cases this
  have tsf : fa ∉ ts := fun hm => by
    obtain ⟨i, hi⟩ := List.getElem?_of_mem hm
    have hl : i < T.length := by have := (List.getElem?_eq_some_iff.mp hi).1; rw [A.lt] at this; exact this
    have := A.trip i fa (ws[i]'(by rw [A.lw]; exact hl)) T[i] hi (List.getElem?_eq_getElem _) (List.getElem?_eq_getElem hl)
    rw [A.top] at this; cases this
  refine ⟨by rw [upd_same, List.map_append]; rfl, by simp [A.lt], by simp [A.lw], fun i t w f h1 h2 h3 => ?_, fun i w f h1 h2 => ?_, fun hm => ?_⟩
  · rcases getElem?_snoc h3 with ⟨hl, h3⟩ | ⟨hl, rfl⟩
    · rw [List.getElem?_append_left (by rw [A.lt]; exact hl)] at h1
      rw [List.getElem?_append_left (by rw [A.lw]; exact hl)] at h2
      have hz : t ≠ fa := fun z => tsf (by rw [← z]; exact List.mem_of_getElem? h1)
      rw [upd_ne hz]; exact s _ _ (A.trip i t w f h1 h2 h3)
    · rcases getElem?_snoc h1 with ⟨h, _⟩ | ⟨_, rfl⟩
      · rw [A.lt] at h; omega
      · rcases getElem?_snoc h2 with ⟨h, _⟩ | ⟨_, rfl⟩
        · rw [A.lw] at h; omega
        · rw [upd_ne tf]; exact ht3
  · rcases getElem?_snoc h2 with ⟨hl, h2⟩ | ⟨hl, rfl⟩
    · rw [List.getElem?_append_left (by rw [A.lw]; exact hl)] at h1
      have hz : w ≠ fa := fun z => A.out (by rw [← z]; exact List.mem_of_getElem? h1)
      rw [upd_ne hz]; exact s _ _ (A.word i w f h1 h2)
    · rcases getElem?_snoc h1 with ⟨h, _⟩ | ⟨_, rfl⟩
      · rw [A.lw] at h; omega
      · rw [upd_ne wf]; exact hw3
  · rcases List.mem_append.mp hm with hm | hm
    · exact A.out hm
    · exact wf (List.mem_singleton.mp hm).symm
/-- the pairs kept so far and the links agree -/
structure LkAt (H : Hp) (la : Addr) (n : Nat) (rss : List (List Int)) (a b d : Int) (Kp : List Tri) (k j : Nat) : Prop where
  ex : ∃ (ls : List Int) (root dist : Nat → Nat), H la = some (.lst (ls.map V.int)) ∧ ls.length = n ∧ UF ls root dist ∧ PInv rss a b d Kp root k j
theorem LkAt.same {H H' : Hp} {la : Addr} {n : Nat} {rss : List (List Int)} {a b d : Int} {Kp : List Tri} {k j : Nat} (s : Same H H') (L : LkAt H la n rss a b d Kp k j) : LkAt H' la n rss a b d Kp k j :=
  let ⟨ls, root, dist, h1, h2, h3, h4⟩ := L.ex; ⟨ls, root, dist, s _ _ h1, h2, h3, h4⟩
theorem LkAt.len {H : Hp} {la : Addr} {n : Nat} {rss : List (List Int)} {a b d : Int} {Kp : List Tri} {k j : Nat} (L : LkAt H la n rss a b d Kp k j) : Kp.length ≤ rss.length := by
  obtain ⟨ls, root, dist, h1, h2, h3, h4⟩ := L.ex
  have := h4.count; omega
structure Lv (H H' : Hp) (la fa : Addr) (rss : List (List Int)) (a b d : Int) (Kp Kp' : List Tri) (ts ws : List Addr) (k j : Nat) : Prop where
  keep : ∀ x o, x ≠ la → H x = some o → H' x = some o
  free : ∀ x, H' x = none → H x = none
  lk : LkAt H' la rss.length rss a b d Kp' k j
  le : Kp.length ≤ Kp'.length
  pre : ∀ m, m < Kp.length → Kp'[m]? = Kp[m]?
  tr : TripAt H' fa ts ws (Kp'.drop Kp.length)
  new : ∀ x ∈ fa :: ws, H x = none
theorem Lv.tick {H H' H2 : Hp} {la fa : Addr} {rss : List (List Int)} {a b d : Int} {Kp Kp' : List Tri} {ts ws : List Addr} {k j : Nat} (L : Lv H H' la fa rss a b d Kp Kp' ts ws k j) (s : Same H' H2) : Lv H H2 la fa rss a b d Kp Kp' ts ws k j :=
  ⟨fun x o hx e => s _ _ (L.keep x o hx e), fun x e => L.free x (s.free e), L.lk.same s, L.le, L.pre, L.tr.same s, L.new⟩
def sp_pairs_behind (K : PySem.W.Frag) : Sp := fun vs H Q _ => ∃ (aw : Addr) (rs : List Addr) (rss : List (List Int)) (pa : Addr) (ts ws : List Addr) (la : Addr) (a b d : Int) (Kp : List Tri) (k : Nat), vs = [.ref aw, .ref pa, .ref la] ∧ Mat H aw rs rss ∧ Ways d rss ∧ 1 ≤ d ∧ d ≤ 6 ∧ rss.length ≤ 1000 ∧ 0 ≤ a ∧ a < rss.length ∧ 0 ≤ b ∧ b < rss.length ∧ TripAt H pa ts ws (Kp.drop k) ∧ k ≤ Kp.length ∧ LkAt H la rss.length rss a b d Kp k 0 ∧ la ∉ aw :: rs ∧ la ∉ pa :: ws ∧
  ∀ (H' : Hp) (fa : Addr) (ts' ws' : List Addr) (Kp' : List Tri), Lv H H' la fa rss a b d Kp Kp' ts' ws' Kp.length 0 → Q (.ref fa) H'
theorem ok_pairs_behind (T : Txt K mg t) : FnOk P w K mg base CX0 3 t.f_pairs_behind t.fd_pairs_behind ["ways", "pairs", "links"] (sp_pairs_behind K) := by
  refine T.F_pairs_behind.ok sc_pairs_behind (fun vs H Q E h => ?_) (fun cdv A outer s H vs Q E hr h => ?_)
  · obtain ⟨aw, rs, rss, pa, ts, ws, la, a, b, d, Kp, k, rfl, _⟩ := h
    rfl
  · obtain ⟨aw, rs, rss, pa, ts, ws, la, a, b, d, Kp, k, rfl, M, W, hd1, hd6, h1000, a0, a1, b0, b1, A, hk, L, hlaw, hlap, q⟩ := h
    obtain ⟨ls0, root0, dist0, hla0, _⟩ := L.ex
    have kin : ∀ {Kp' : List Tri} {root : Nat → Nat} {k j : Nat}, PInv rss a b d Kp' root k j → ∀ e ∈ Kp', (0 ≤ e.1 ∧ e.1 < rss.length) ∧ (0 ≤ e.2.1 ∧ e.2.1 < rss.length) := fun {Kp' root k j} P e he => by
      obtain ⟨o1, o2, o3⟩ := P.ok e he
      rw [o2, o3]
      exact ⟨walkI_in W o1 a0 a1, walkI_in W o1 b0 b1⟩
    have hpl : pa ≠ la := fun z => hlap (by rw [z]; exact List.mem_cons_self)
    have hwl : la ∉ ws := fun z => hlap (List.mem_cons_of_mem _ z)
    have hlt := A.lt
    have hlw := A.lw
    have hdl : (Kp.drop k).length = Kp.length - k := List.length_drop
    refine ⟨_, pss_cons (ps_set (i := 3) sc_pairs_behind.nd rfl (Or.inl rfl) (pe_lst (pa_nil)))
 (pss_cons (ps_for PassesOwn.never rfl (pi_listK K (pv 1)) (pg_tupK K (n := 3) rfl (pgs_cons (pg_name (i := 4) sc_pairs_behind.nd rfl (Or.inl rfl)) (pgs_cons (pg_name (i := 5) sc_pairs_behind.nd rfl (Or.inl rfl)) (pgs_cons (pg_name (i := 6) sc_pairs_behind.nd rfl (Or.inl rfl)) (pgs_nil)))))
 (pss_one (ps_for PassesOwn.never rfl (pi_enumK K rfl T.m_enumerate (pa_cons (pe_ix (ix_listK K) (pv 0) (pv 4) (fun _ _ => rfl)) (pa_nil))) (pg_tupK K (n := 2) rfl (pgs_cons (pg_name (i := 7) sc_pairs_behind.nd rfl (Or.inl rfl)) (pgs_cons (pg_name (i := 8) sc_pairs_behind.nd rfl (Or.inl rfl)) (pgs_nil))))
 (pss_one (ps_join (ps_if (pt_val (pe_call (ok_newly_linked T) (hr.mono (by decide)) rfl T.mg_newly_linked T.F_newly_linked.kp (b_newly_linked T) .nil pass0 (pa_cons (pv 2) (pa_cons (pv 8) (pa_cons (pe_ix (ix_listK K) (pe_ix (ix_listK K) (pv 0) (pv 5) (fun _ _ => rfl)) (pv 7) (fun _ _ => rfl)) (pa_nil))))))
 (pss_one (ps_expr (pe_bmK K PySem.F.plainAttrs_list PySem.F.slot_list_append PySem.F.type_list_append mt_append (pv 3) (pa_cons (pe_tup (pa_cons (pv 8) (pa_cons (pe_ix (ix_listK K) (pe_ix (ix_listK K) (pv 0) (pv 5) (fun _ _ => rfl)) (pv 7) (fun _ _ => rfl)) (pa_cons (pe_op op_cat (pv 6) (pe_lst (pa_cons (pv 7) (pa_nil)))) (pa_nil))))) (pa_nil)))))
 (pss_nil)))))))
 (pss_one (ps_ret (pv 3)))), ?_⟩
    repeat walk_at "sx"
    refine ⟨Nat.zero_le _, fun fa hfa => ?_⟩
    repeat walk_at "sx"
    have s0 : Same H (upd H fa (.lst [])) := Same.upd_new hfa
    have L0 : Lv H (upd H fa (.lst [])) la fa rss a b d Kp Kp [] [] (k + 0) 0 := by
      refine ⟨fun x o _ e => s0 _ _ e, fun x e => s0.free e, L.same s0, Nat.le_refl _, fun _ _ => rfl, ⟨upd_same, by simp, by simp, fun i t w e h1 => by simp at h1, fun i w e h1 => by simp at h1, by simp⟩, fun x hx => by rw [List.mem_singleton.mp hx]; exact hfa⟩
    generalize upd H fa (.lst []) = H0 at s0 L0 ⊢
    refine ⟨pa, rfl, ⟨_, SqL.of (s0 _ _ A.top)⟩, ?_⟩
    refine for_list (xs := ts.map V.ref) (fun i σ H' => ∃ (Kp' : List Tri) (ts' ws' : List Addr) (q4 q5 q6 q7 q8 : Option V), Lv H H' la fa rss a b d Kp Kp' ts' ws' (k + i) 0 ∧ σ = [some (.ref aw), some (.ref pa), some (.ref la), some (.ref fa), q4, q5, q6, q7, q8]) ⟨Kp, [], [], none, none, none, none, none, L0, rfl⟩ (fun i σ H' _ p => by obtain ⟨Kp', ts', ws', _, _, _, _, _, L', _⟩ := p; exact SqL.of (L'.keep _ _ hpl A.top)) (fun i x σ H' hx p => ?_) (fun σ H' p => ?_)
    · obtain ⟨Kp1, ts1, ws1, q4, q5, q6, q7, q8, L1, rfl⟩ := p
      obtain ⟨ta, rfl, hta⟩ := ref_map_inv hx
      have hi : i < (Kp.drop k).length := by rw [← hlt]; exact (List.getElem?_eq_some_iff.mp hta).1
      have hki : k + i < Kp.length := by omega
      obtain ⟨wa, hwa⟩ : ∃ wa, ws[i]? = some wa := ⟨_, List.getElem?_eq_getElem (by omega)⟩
      obtain ⟨e, he⟩ : ∃ e, (Kp.drop k)[i]? = some e := ⟨_, List.getElem?_eq_getElem hi⟩
      have heK : Kp[k + i]? = some e := by rw [← List.getElem?_drop]; exact he
      have hem : e ∈ Kp := List.mem_of_getElem? heK
      have htv := A.trip i ta wa e hta hwa he
      have hwv := A.word i wa e hwa he
      have hta_la : ta ≠ la := ne_of htv hla0 (fun z => nomatch z)
      have hwa_la : wa ≠ la := fun z => hwl (z ▸ List.mem_of_getElem? hwa)
      obtain ⟨lsx, rootx, distx, _, _, _, Px⟩ := L.ex
      obtain ⟨⟨e1, e2⟩, e3, e4⟩ := kin Px e hem
      obtain ⟨r1, hr1i, hr1, hr1v⟩ := M.get (i := e.1.toNat) (row := rss[e.1.toNat]'(by omega)) (List.getElem?_eq_getElem (by omega))
      have hr1la : r1 ≠ la := fun z => hlaw (z ▸ List.mem_cons_of_mem _ (List.mem_of_getElem? hr1i))
      have hawla : aw ≠ la := fun z => hlaw (by rw [z]; exact List.mem_cons_self)
      obtain ⟨hrl, _⟩ := W.row (rss[e.1.toNat]'(by omega)) (List.getElem_mem _)
      have hrow1 : rss[e.1.toNat]? = some (rss[e.1.toNat]'(by omega)) := List.getElem?_eq_getElem (by omega)
      generalize (rss[e.1.toNat]'(by omega)) = row1 at hr1v hrl hrow1
      refine ⟨ta, _, rfl, SqT.of (L1.keep _ _ hta_la htv), rfl, _, _, rfl, ?_⟩
      repeat walk_at "sx"
      refine ⟨_, _, rfl, ?_⟩
      repeat walk_at "sx"
      refine ⟨_, _, rfl, ?_⟩
      repeat walk_at "sx"
      refine ⟨rfl, ?_⟩
      repeat walk_at "sx"
      refine r_ixL (SqL.of (L1.keep _ _ hawla M.top)) (atI_get' e1 hr1) ?_
      repeat walk_at "sx"
      refine ⟨r1, rfl, ⟨_, SqL.of (L1.keep _ _ hr1la hr1v)⟩, ?_⟩
      refine for_enum (xs := row1.map V.int) (fun j σ H2 => ∃ (Kp2 : List Tri) (ts2 ws2 : List Addr) (q7 q8 : Option V), Lv H H2 la fa rss a b d Kp Kp2 ts2 ws2 (k + i) j ∧ σ = [some (.ref aw), some (.ref pa), some (.ref la), some (.ref fa), some (.int e.1), some (.int e.2.1), some (.ref wa), q7, q8]) ⟨Kp1, ts1, ws1, _, _, L1, rfl⟩ (fun j σ H2 _ p => by obtain ⟨Kp2, ts2, ws2, _, _, L2', _⟩ := p; exact SqL.of (L2'.keep _ _ hr1la hr1v)) (fun j x σ H2 tp hx p htp => ?_) (fun σ H2 p => ?_)
      · obtain ⟨Kp2, ts2, ws2, q7, q8, L2', rfl⟩ := p
        have hx0 := int_map_inv hx
        clear hx
        obtain ⟨x, rfl, hx⟩ := hx0
        have hjd : (j : Int) < d := by have := (List.getElem?_eq_some_iff.mp hx).1; omega
        obtain ⟨rowa, g1, g2, g3, g4⟩ := step_in W e1 e2 (x := (j : Int)) (by omega) hjd
        rw [hrow1] at g1; cases g1
        rw [Int.toNat_natCast, hx] at g2
        have hxs : x = step rss e.1 (j : Int) := Option.some.inj g2
        obtain ⟨row2, f1, f2, f3, f4⟩ := step_in W e3 e4 (x := (j : Int)) (by omega) hjd
        obtain ⟨r2, hr2i, hr2, hr2v⟩ := M.get f1
        have hr2la : r2 ≠ la := fun z => hlaw (z ▸ List.mem_cons_of_mem _ (List.mem_of_getElem? hr2i))
        have L3 := L2'.tick (Same.upd_new (o := .tup [.int (j : Int), .int x]) htp)
        have tpv : (upd H2 tp (.tup [.int (j : Int), .int x])) tp = some (.tup [.int (j : Int), .int x]) := upd_same
        generalize upd H2 tp (.tup [.int (j : Int), .int x]) = H3 at L3 tpv ⊢
        obtain ⟨xn, hxn⟩ : ∃ xn : Nat, step rss e.1 (j : Int) = (xn : Int) := ⟨(step rss e.1 (j : Int)).toNat, by omega⟩
        obtain ⟨yn, hyn⟩ : ∃ yn : Nat, step rss e.2.1 (j : Int) = (yn : Int) := ⟨(step rss e.2.1 (j : Int)).toNat, by omega⟩
        rw [hxn] at hxs
        subst hxs
        obtain ⟨ls, root, dist, hls, hln, U, Pi⟩ := L3.lk.ex
        have heK2 : Kp2[k + i]? = some e := by rw [L3.pre _ hki]; exact heK
        obtain ⟨ix1, ix2⟩ := U.idem (dist xn) xn (Nat.le_refl _) (by omega)
        obtain ⟨iy1, iy2⟩ := U.idem (dist yn) yn (Nat.le_refl _) (by omega)
        have hcnt := Pi.count
        refine ⟨tp, _, rfl, SqT.of tpv, rfl, _, _, rfl, ?_⟩
        repeat walk_at "sx"
        refine ⟨_, _, rfl, ?_⟩
        repeat walk_at "sx"
        refine ⟨rfl, ?_⟩
        repeat walk_at "sx"
        refine r_join (fun σ' H' => ∃ (Kp3 : List Tri) (ts3 ws3 : List Addr), Lv H H' la fa rss a b d Kp Kp3 ts3 ws3 (k + i) (j + 1) ∧ σ' = [some (.ref aw), some (.ref pa), some (.ref la), some (.ref fa), some (.int e.1), some (.int e.2.1), some (.ref wa), some (.int (j : Int)), some (.int (xn : Int))]) ?_ (fun σ' H' ⟨Kp3, ts3, ws3, h1, h2⟩ => ⟨Kp3, ts3, ws3, _, _, h1, h2⟩)
        repeat walk_at "sx"
        refine r_ixL (SqL.of (L3.keep _ _ hawla M.top)) (atI_get' e3 hr2) ?_
        repeat walk_at "sx"
        refine r_ixL (SqL.of (L3.keep _ _ hr2la hr2v)) (atI_get' (by omega) (int_map_get f2)) ?_
        rw [hyn]
        repeat walk_at "sx"
        refine ⟨la, ls, root, dist, xn, yn, rfl, hls, U, by omega, by omega, fun ls' dist' U' hl' => ?_⟩
        have hU' : UF ls' (linkR root xn yn) dist' := U'
        have hnla : ∀ y ∈ fa :: ws2, y ≠ la := fun y hy z => by have := L3.new y hy; rw [z, hla0] at this; cases this
        have htsla : la ∉ ts2 := fun hm => by
          obtain ⟨m, hm⟩ := List.getElem?_of_mem hm
          have hml : m < (Kp2.drop Kp.length).length := by rw [← L3.tr.lt]; exact (List.getElem?_eq_some_iff.mp hm).1
          have := L3.tr.trip m la (ws2[m]'(by rw [L3.tr.lw]; exact hml)) ((Kp2.drop Kp.length)[m]) hm (List.getElem?_eq_getElem _) (List.getElem?_eq_getElem hml)
          rw [hls] at this; cases this
        have k34 : ∀ y o, y ≠ la → H3 y = some o → (upd H3 la (.lst (ls'.map V.int))) y = some o := fun y o hy e => by rw [upd_ne hy]; exact e
        have f34 : ∀ y, (upd H3 la (.lst (ls'.map V.int))) y = none → H3 y = none := fun y e => by
          by_cases hy : y = la
          · subst hy; rw [upd_same] at e; cases e
          · rw [upd_ne hy] at e; exact e
        have la4 : (upd H3 la (.lst (ls'.map V.int))) la = some (.lst (ls'.map V.int)) := upd_same
        have tr4 := L3.tr.keep k34 (hnla fa List.mem_cons_self) (fun hm => hnla la (List.mem_cons_of_mem _ hm) rfl) htsla
        generalize upd H3 la (.lst (ls'.map V.int)) = H4 at k34 f34 la4 tr4 ⊢
        repeat walk_at "sx"
        refine r_ite (fun hc => ?_) (fun hc => ?_)
        · have hne : root xn ≠ root yn := by simpa using hc
          have P' := Pi.new heK2 hjd hxn hyn (by omega) ix1 iy1 hne
          repeat walk_at "sx"
          refine ⟨.inl ⟨rfl, _, SqL.of tr4.top⟩, ?_⟩
          repeat walk_at "sx"
          refine r_ixL (SqL.of (k34 _ _ hawla (L3.keep _ _ hawla M.top))) (atI_get' e3 hr2) ?_
          repeat walk_at "sx"
          refine r_ixL (SqL.of (k34 _ _ hr2la (L3.keep _ _ hr2la hr2v))) (atI_get' (by omega) (int_map_get f2)) ?_
          rw [hyn]
          repeat walk_at "sx"
          refine ⟨by show 1 ≤ sizeLine; decide, fun p1 hp1 => ?_⟩
          have s1 := Same.upd_new (o := .lst [.int (j : Int)]) hp1
          have hwlen := Pi.wl _ _ heK2
          refine ⟨wa, p1, _, _, rfl, rfl, s1 _ _ (k34 _ _ hwa_la (L3.keep _ _ hwa_la hwv)), upd_same, (by rw [List.length_map]; show e.2.2.length + 1 ≤ sizeLine; have hKl := L3.lk.len; have hkl2 : k + i < Kp2.length := (List.getElem?_eq_some_iff.mp heK2).1; exact Nat.le_trans (show _ ≤ 200000 by omega) (by decide)), fun p2 hp2 => ?_⟩
          have s2 := s1.trans (Same.upd_new (o := .lst (e.2.2.map V.int ++ [.int (j : Int)])) hp2)
          have hp2' := s1.free hp2
          have hp2v : (upd (upd H4 p1 (.lst [.int (j : Int)])) p2 (.lst (e.2.2.map V.int ++ [.int (j : Int)]))) p2 = some (.lst ((e.2.2 ++ [(j : Int)]).map V.int)) := by rw [upd_same]; simp
          generalize upd (upd H4 p1 (.lst [.int (j : Int)])) p2 (.lst (e.2.2.map V.int ++ [.int (j : Int)])) = H6 at s2 hp2v ⊢
          repeat walk_at "sx"
          refine ⟨by show 3 ≤ sizeLine; decide, fun t2 ht2 => ?_⟩
          have s3 := s2.trans (Same.upd_new (o := .tup [.int (xn : Int), .int (yn : Int), .ref p2]) ht2)
          have ht2' := s2.free ht2
          have ht2v : (upd H6 t2 (.tup [.int (xn : Int), .int (yn : Int), .ref p2])) t2 = some (.tup [.int (xn : Int), .int (yn : Int), .ref p2]) := upd_same
          have hp2w : (upd H6 t2 (.tup [.int (xn : Int), .int (yn : Int), .ref p2])) p2 = some (.lst ((e.2.2 ++ [(j : Int)]).map V.int)) := by rw [upd_ne (ne_of_none hp2v ht2)]; exact hp2v
          generalize upd H6 t2 (.tup [.int (xn : Int), .int (yn : Int), .ref p2]) = H7 at s3 ht2v hp2w ⊢
          repeat walk_at "sx"
          refine ⟨fa, _, _, rfl, rfl, s3 _ _ tr4.top, small1000 (by rw [List.length_map, tr4.lt, List.length_drop]; omega), ?_⟩
          have hlaf : la ≠ fa := Ne.symm (hnla fa List.mem_cons_self)
          refine ⟨Kp2 ++ [((xn : Int), (yn : Int), e.2.2 ++ [(j : Int)])], ts2 ++ [t2], ws2 ++ [p2], ⟨fun y o hy e' => ?_, fun y e' => ?_, ⟨ls', _, dist', ?_, by omega, hU', P'⟩, ?_, fun m hm => ?_, ?_, fun y hy => ?_⟩, rfl⟩
          · rw [upd_ne (ne_of_none e' hfa)]
            exact s3 _ _ (k34 _ _ hy (L3.keep _ _ hy e'))
          · have : y ≠ fa := fun z => by rw [z, upd_same] at e'; cases e'
            rw [upd_ne this] at e'
            exact L3.free y (f34 y (s3.free e'))
          · rw [upd_ne hlaf]; exact s3 _ _ la4
          · have := L3.le; simp; omega
          · have := L3.le
            rw [List.getElem?_append_left (by omega)]; exact L3.pre m hm
          · rw [List.drop_append_of_le_length L3.le]
            exact tr4.add s3 hp2' ht2' hp2w ht2v
          · have hy : y ∈ (fa :: ws2) ++ [p2] := hy
            rcases List.mem_append.mp hy with hy | hy
            · exact L3.new y hy
            · rw [List.mem_singleton.mp hy]; exact L3.free _ (f34 _ hp2')
        · have heq : root xn = root yn := by simpa using hc
          have P' := Pi.old heK2 hxn hyn heq
          rw [fix_same heq] at hU'
          repeat walk_at "sx"
          exact ⟨Kp2, ts2, ws2, ⟨fun y o hy e' => k34 _ _ hy (L3.keep _ _ hy e'), fun y e' => L3.free y (f34 y e'), ⟨ls', root, dist', la4, by omega, hU', P'⟩, L3.le, L3.pre, tr4, L3.new⟩, rfl⟩
      · obtain ⟨Kp2, ts2, ws2, q7, q8, L2', rfl⟩ := p
        obtain ⟨ls, root, dist, hls, hln, U, Pi⟩ := L2'.lk.ex
        have hle := L2'.le
        have P' := Pi.next (by rw [List.length_map]; omega) (by omega)
        exact ⟨Kp2, ts2, ws2, _, _, _, _, _, ⟨L2'.keep, L2'.free, ⟨ls, root, dist, hls, hln, U, by rw [← Nat.add_assoc]; exact P'⟩, L2'.le, L2'.pre, L2'.tr, L2'.new⟩, rfl⟩
    · obtain ⟨Kp', ts', ws', q4, q5, q6, q7, q8, L', rfl⟩ := p
      repeat walk_at "sx"
      rw [List.length_map, hlt, hdl, Nat.add_sub_cancel' hk] at L'
      exact q H' fa ts' ws' Kp' L'
/-! #### parting_word -/
theorem sc_parting_word : FnScope ["ways", "lamps", "one", "other", "links", "pairs", "left", "right", "word"] ["ways", "lamps", "one", "other"] (defScope s_parting_word) := ⟨rfl, rfl, rfl, by decide +kernel, rfl, by decide +kernel, by decide +kernel⟩
theorem b_parting_word (T : Txt K mg t) : Binds K t.fd_parting_word ["ways", "lamps", "one", "other"] [] := T.F_parting_word.binds fun _ _ _ _ _ _ us hl => match us, hl with | [_, _, _, _], _ => rfl
def sp_parting_word (K : PySem.W.Frag) : Sp := fun vs H Q _ => ∃ (aw : Addr) (rs : List Addr) (rss : List (List Int)) (al : Addr) (ls : List Bool) (a b d : Int), vs = [.ref aw, .ref al, .int a, .int b] ∧ Mat H aw rs rss ∧ SqL K H al (ls.map V.bl) ∧ Ways d rss ∧ 1 ≤ d ∧ d ≤ 6 ∧ rss.length ≤ 1000 ∧ ls.length = rss.length ∧ 0 ≤ a ∧ a < rss.length ∧ 0 ≤ b ∧ b < rss.length ∧
  (∀ H', Same H H' → (∀ w, WordOk d w → lampI ls (walkI rss a w) = lampI ls (walkI rss b w)) → Q .non H') ∧
  (∀ H' p w, Same H H' → H' p = some (.lst (w.map V.int)) → H p = none → Parts d rss rss ls ls a b w → w.length ≤ 1000 → Q (.ref p) H')
theorem UF.start (n : Nat) : UF ((List.range n).map fun (i : Nat) => (i : Int)) (fun z => z) (fun _ => 0) := by
  have get : ∀ {i : Nat} {x : Int}, ((List.range n).map fun (i : Nat) => (i : Int))[i]? = some x → i < n ∧ x = (i : Int) := fun {i x} h => by
    have hi : i < n := by have := (List.getElem?_eq_some_iff.mp h).1; simpa using this
    rw [List.getElem?_map, List.getElem?_range hi] at h
    exact ⟨hi, (Option.some.inj h).symm⟩
  refine ⟨fun i x h => ?_, fun i x h hx => absurd (get h).2 hx, fun i x h => ?_, fun i x h _ => rfl⟩
  · obtain ⟨h1, h2⟩ := get h
    simp; omega
  · rw [(get h).2, Int.toNat_natCast]
def lampN (ls : List Bool) (i : Int) : Nat := if lampI ls i = true then 1 else 0
theorem lampN_eq {ls : List Bool} {i j : Int} : lampN ls i = lampN ls j ↔ lampI ls i = lampI ls j := by
  unfold lampN
  cases lampI ls i <;> cases lampI ls j <;> simp
theorem ok_parting_word (T : Txt K mg t) : FnOk P w K mg base CX0 4 t.f_parting_word t.fd_parting_word ["ways", "lamps", "one", "other"] (sp_parting_word K) := by
  refine T.F_parting_word.ok sc_parting_word (fun vs H Q E h => ?_) (fun cdv A outer s H vs Q E hr h => ?_)
  · obtain ⟨aw, rs, rss, al, ls, a, b, d, rfl, _⟩ := h
    rfl
  · obtain ⟨aw, rs, rss, al, ls, a, b, d, rfl, M, hL, W, hd1, hd6, h1000, hll, a0, a1, b0, b1, qn, qs⟩ := h
    obtain ⟨an, rfl⟩ : ∃ an : Nat, a = (an : Int) := ⟨a.toNat, by omega⟩
    obtain ⟨bn, rfl⟩ : ∃ bn : Nat, b = (bn : Int) := ⟨b.toNat, by omega⟩
    have hlen : (rs.map V.ref).length = rss.length := by rw [List.length_map, M.len]
    refine ⟨_, pss_cons (ps_set (i := 4) sc_parting_word.nd rfl (Or.inl rfl) (pe_callTy (call_list_rng rfl) rfl T.m_list boot_list (pa_cons (pe_callTy call_rangeV rfl T.m_range boot_range (pa_cons (pe_callB (call_len_seqK K) rfl T.m_len PySem.boot_len (pa_cons (pv 0) (pa_nil))) (pa_nil))) (pa_nil))))
 (pss_cons (ps_set (i := 5) sc_parting_word.nd rfl (Or.inl rfl) (pe_lst (pa_nil)))
 (pss_cons (ps_join (ps_if (pt_val (pe_call (ok_newly_linked T) (hr.mono (by decide)) rfl T.mg_newly_linked T.F_newly_linked.kp (b_newly_linked T) .nil pass0 (pa_cons (pv 4) (pa_cons (pv 2) (pa_cons (pv 3) (pa_nil))))))
 (pss_one (ps_expr (pe_bmK K PySem.F.plainAttrs_list PySem.F.slot_list_append PySem.F.type_list_append mt_append (pv 5) (pa_cons (pe_tup (pa_cons (pv 2) (pa_cons (pv 3) (pa_cons (pe_lst (pa_nil)) (pa_nil))))) (pa_nil)))))
 (pss_nil)))
 (pss_cons (ps_while PassesOwn.never (pt_cmpR op_gt (pe_callB (call_len_seqK K) rfl T.m_len PySem.boot_len (pa_cons (pv 5) (pa_nil))) (pe_int) (nomark _))
 (pss_cons (ps_for PassesOwn.never rfl (pi_listK K (pv 5)) (pg_tupK K (n := 3) rfl (pgs_cons (pg_name (i := 6) sc_parting_word.nd rfl (Or.inl rfl)) (pgs_cons (pg_name (i := 7) sc_parting_word.nd rfl (Or.inl rfl)) (pgs_cons (pg_name (i := 8) sc_parting_word.nd rfl (Or.inl rfl)) (pgs_nil)))))
 (pss_one (ps_if (pt_cmpR op_ne (pe_ix (ix_listK K) (pv 1) (pv 6) (fun _ _ => rfl)) (pe_ix (ix_listK K) (pv 1) (pv 7) (fun _ _ => rfl)) (nomark _))
 (pss_one (ps_ret (pv 8)))
 (pss_nil))))
 (pss_one (ps_set (i := 5) sc_parting_word.nd rfl (Or.inl rfl) (pe_call (ok_pairs_behind T) (hr.mono (by decide)) rfl T.mg_pairs_behind T.F_pairs_behind.kp (b_pairs_behind T) .nil pass0 (pa_cons (pv 0) (pa_cons (pv 5) (pa_cons (pv 4) (pa_nil)))))))))
 (pss_one (ps_ret (pe_non)))))), ?_⟩
    repeat walk_at "sx"
    refine ⟨aw, _, rfl, .inl (SqL.of M.top), ?_⟩
    rw [hlen]
    repeat walk_at "sx"
    refine ⟨_, rfl, fun rg hrg => ?_⟩
    have s1 : Same H (upd H rg (.rng 0 (rss.length : Int))) := Same.upd_new hrg
    have rgv : (upd H rg (.rng 0 (rss.length : Int))) rg = some (.rng 0 (rss.length : Int)) := upd_same
    generalize upd H rg (.rng 0 (rss.length : Int)) = H1 at s1 rgv ⊢
    repeat walk_at "sx"
    refine ⟨rg, _, rfl, rgv, by omega, by omega, fun la hla => ?_⟩
    rw [Int.toNat_natCast, show ((List.range rss.length).map fun (i : Nat) => V.int (i : Int)) = ((List.range rss.length).map fun (i : Nat) => (i : Int)).map V.int by rw [List.map_map]; rfl]
    have hla0 : H la = none := s1.free hla
    have s2 : Same H (upd H1 la (.lst (((List.range rss.length).map fun (i : Nat) => (i : Int)).map V.int))) := s1.trans (Same.upd_new hla)
    have lav : (upd H1 la (.lst (((List.range rss.length).map fun (i : Nat) => (i : Int)).map V.int))) la = some (.lst (((List.range rss.length).map fun (i : Nat) => (i : Int)).map V.int)) := upd_same
    generalize upd H1 la (.lst (((List.range rss.length).map fun (i : Nat) => (i : Int)).map V.int)) = H2 at s2 lav ⊢
    have U0 := UF.start rss.length
    have l0 : ((List.range rss.length).map fun (i : Nat) => (i : Int)).length = rss.length := by simp
    generalize ((List.range rss.length).map fun (i : Nat) => (i : Int)) = lk0 at lav U0 l0
    repeat walk_at "sx"
    refine ⟨Nat.zero_le _, fun pa hpa => ?_⟩
    have s3 : Same H2 (upd H2 pa (.lst [])) := Same.upd_new hpa
    have pav : (upd H2 pa (.lst [])) pa = some (.lst []) := upd_same
    have hpa0 : H pa = none := s2.free hpa
    have hpl : pa ≠ la := fun z => by rw [z, lav] at hpa; cases hpa
    generalize upd H2 pa (.lst []) = H3 at s3 pav ⊢
    have hlaM : la ∉ aw :: rs := fun hm => by obtain ⟨o, e⟩ := M.mem hm; rw [e] at hla0; cases hla0
    repeat walk_at "sx"
    -- the state between two levels
    refine r_join (fun σ' H' => ∃ (pa : Addr) (ts ws : List Addr) (Kp : List Tri), (∀ x o, H x = some o → H' x = some o) ∧ TripAt H' pa ts ws Kp ∧ H' la ≠ none ∧ (∀ x ∈ pa :: ws, H x = none ∧ x ≠ la) ∧ ((Kp = [] ∧ an = bn) ∨ LkAt H' la rss.length rss an bn d Kp 0 0) ∧
      σ' = [some (.ref aw), some (.ref al), some (.int (an : Int)), some (.int (bn : Int)), some (.ref la), some (.ref pa), none, none, none]) ?_ ?_
    · repeat walk_at "sx"
      refine ⟨la, lk0, (fun z => z), (fun _ => 0), an, bn, rfl, s3 _ _ lav, U0, by omega, by omega, fun ls' dist' U' hl' => ?_⟩
      have hU' : UF ls' (linkR (fun z => z) an bn) dist' := U'
      have k34 : ∀ y o, y ≠ la → H3 y = some o → (upd H3 la (.lst (ls'.map V.int))) y = some o := fun y o hy e => by rw [upd_ne hy]; exact e
      have la4 : (upd H3 la (.lst (ls'.map V.int))) la = some (.lst (ls'.map V.int)) := upd_same
      generalize upd H3 la (.lst (ls'.map V.int)) = H4 at k34 la4 ⊢
      have k04 : ∀ y o, H y = some o → H4 y = some o := fun y o e => k34 _ _ (ne_of_none e hla0) (s3 _ _ (s2 _ _ e))
      have pa4 := k34 _ _ hpl pav
      repeat walk_at "sx"
      refine r_ite (fun hc => ?_) (fun hc => ?_)
      · have hne : an ≠ bn := by simpa using hc
        have P0 := PInv.start (rss := rss) (d := d) (x := an) (y := bn) rfl rfl (by omega) (by omega) hne
        repeat walk_at "sx"
        refine ⟨.inl ⟨rfl, _, SqL.of pa4⟩, ?_⟩
        repeat walk_at "sx"
        refine ⟨Nat.zero_le _, fun w0 hw0 => ?_⟩
        have s5 : Same H4 (upd H4 w0 (.lst [])) := Same.upd_new hw0
        have w0v : (upd H4 w0 (.lst [])) w0 = some (.lst []) := upd_same
        generalize upd H4 w0 (.lst []) = H5 at s5 w0v ⊢
        repeat walk_at "sx"
        refine ⟨by show 3 ≤ sizeLine; decide, fun t0 ht0 => ?_⟩
        have s6 : Same H4 (upd H5 t0 (.tup [.int (an : Int), .int (bn : Int), .ref w0])) := s5.trans (Same.upd_new ht0)
        have t0v : (upd H5 t0 (.tup [.int (an : Int), .int (bn : Int), .ref w0])) t0 = some (.tup [.int (an : Int), .int (bn : Int), .ref w0]) := upd_same
        have w0w : (upd H5 t0 (.tup [.int (an : Int), .int (bn : Int), .ref w0])) w0 = some (.lst []) := by rw [upd_ne (ne_of_none w0v ht0)]; exact w0v
        generalize upd H5 t0 (.tup [.int (an : Int), .int (bn : Int), .ref w0]) = H6 at s6 t0v w0w ⊢
        repeat walk_at "sx"
        refine ⟨pa, _, _, rfl, rfl, s6 _ _ pa4, by show 0 < sizeLine; decide, ?_⟩
        have A0 : TripAt H4 pa [] [] [] := ⟨pa4, rfl, rfl, fun i t w e h1 => by simp at h1, fun i w e h1 => by simp at h1, by simp⟩
        have A1 := A0.add (e := ((an : Int), (bn : Int), [])) s6 hw0 (s5.free ht0) w0w t0v
        have hn4 : ∀ x, H4 x = none → H x = none := fun x e => by
          cases e' : H x with
          | none => rfl
          | some o => rw [k04 x o e'] at e; cases e
        have hw0H : H w0 = none := hn4 _ hw0
        refine ⟨pa, [] ++ [t0], [] ++ [w0], [((an : Int), (bn : Int), [])], fun x o e => ?_, A1, ?_, fun x hx => ?_, .inr ⟨ls', _, dist', ?_, by omega, hU', P0⟩, rfl⟩
        · rw [upd_ne (ne_of_none e hpa0)]; exact s6 _ _ (k04 _ _ e)
        · rw [upd_ne (Ne.symm hpl), s6 _ _ la4]; simp
        · rcases List.mem_cons.mp hx with rfl | hx
          · exact ⟨hpa0, hpl⟩
          · have hx : x = w0 := by simpa using hx
            subst hx
            exact ⟨hw0H, fun z => by rw [z, la4] at hw0; cases hw0⟩
        · rw [upd_ne (Ne.symm hpl)]; exact s6 _ _ la4
      · have heq : an = bn := by simpa using hc
        repeat walk_at "sx"
        exact ⟨pa, [], [], [], k04, ⟨pa4, rfl, rfl, fun i t w e h1 => by simp at h1, fun i w e h1 => by simp at h1, by simp⟩, by rw [la4]; simp, fun x hx => by rw [List.mem_singleton.mp hx]; exact ⟨hpa0, hpl⟩, .inl ⟨rfl, heq⟩, rfl⟩
    clear hpa0 hpl s3 pav hpa
    rintro σ' H' ⟨pa0, ts0, ws0, Kp0, k0, A0, hlaN, new0, st0, rfl⟩
    repeat walk_at "sx"
    refine ⟨fun m σ H' => ∃ (pa : Addr) (ts ws : List Addr) (Kp : List Tri) (k : Nat) (q6 q7 q8 : Option V), m = rss.length + 1 - k ∧ k ≤ Kp.length ∧ (∀ x o, H x = some o → H' x = some o) ∧ TripAt H' pa ts ws (Kp.drop k) ∧ (∀ x ∈ pa :: ws, H x = none ∧ x ≠ la) ∧ ((Kp = [] ∧ an = bn) ∨ (LkAt H' la rss.length rss an bn d Kp k 0 ∧ k ≤ Kp.length)) ∧ (∀ (i : Nat) e, i < k → Kp[i]? = some e → lampN ls e.1 = lampN ls e.2.1) ∧
      σ = [some (.ref aw), some (.ref al), some (.int (an : Int)), some (.int (bn : Int)), some (.ref la), some (.ref pa), q6, q7, q8], ⟨_, pa0, ts0, ws0, Kp0, 0, none, none, none, rfl, Nat.zero_le _, k0, A0, new0, st0.imp id (fun h => ⟨h, Nat.zero_le _⟩), fun i e hi => absurd hi (Nat.not_lt_zero i), rfl⟩, ?_⟩
    rintro m σ H5 ⟨pa, ts, ws, Kp, k, q6, q7, q8, rfl, hk, kp, A, new, st, alike, rfl⟩
    have hdl : (Kp.drop k).length = Kp.length - k := List.length_drop
    have hlt := A.lt
    have hlw := A.lw
    repeat walk_at "sx"
    refine ⟨pa, _, rfl, .inl (SqL.of A.top), ?_⟩
    rw [List.length_map, hlt, hdl]
    repeat walk_at "sx"
    refine r_ite (fun hc => ?_) (fun hc => ?_)
    · have hc : k < Kp.length := by simp at hc; omega
      obtain ⟨L, _⟩ : LkAt H5 la rss.length rss an bn d Kp k 0 ∧ k ≤ Kp.length := by
        rcases st with ⟨h, _⟩ | h
        · rw [h] at hc; simp at hc
        · exact h
      have hcl := L.len
      obtain ⟨lsx, rootx, distx, hlx, hlxn, Ux, Px⟩ := L.ex
      have kin : ∀ e ∈ Kp, (0 ≤ e.1 ∧ e.1 < rss.length) ∧ (0 ≤ e.2.1 ∧ e.2.1 < rss.length) := fun e he => by
        obtain ⟨o1, o2, o3⟩ := Px.ok e he
        rw [o2, o3]
        exact ⟨walkI_in W o1 a0 a1, walkI_in W o1 b0 b1⟩
      refine ⟨fun σ' H' => ∃ (pa : Addr) (ts ws : List Addr) (Kp' : List Tri) (q6 q7 q8 : Option V), Kp.length ≤ Kp'.length ∧ (∀ x o, H x = some o → H' x = some o) ∧ TripAt H' pa ts ws (Kp'.drop Kp.length) ∧ (∀ x ∈ pa :: ws, H x = none ∧ x ≠ la) ∧ LkAt H' la rss.length rss an bn d Kp' Kp.length 0 ∧ (∀ (i : Nat) e, i < Kp.length → Kp'[i]? = some e → lampN ls e.1 = lampN ls e.2.1) ∧
        σ' = [some (.ref aw), some (.ref al), some (.int (an : Int)), some (.int (bn : Int)), some (.ref la), some (.ref pa), q6, q7, q8], fun σ' H' ⟨pa', ts', ws', Kp', q6', q7', q8', h1, h2, h3, h4, h5, h6, h7⟩ => ⟨rss.length + 1 - Kp.length, by omega, pa', ts', ws', Kp', Kp.length, q6', q7', q8', rfl, h1, h2, h3, h4, .inr ⟨h5, h1⟩, h6, h7⟩, ?_⟩
      repeat walk_at "sx"
      refine ⟨pa, rfl, ⟨_, SqL.of A.top⟩, ?_⟩
      refine for_list (xs := ts.map V.ref) (fun i σ H' => H' = H5 ∧ (∀ (m : Nat) e, m < k + i → Kp[m]? = some e → lampN ls e.1 = lampN ls e.2.1) ∧ ∃ q6 q7 q8, σ = [some (.ref aw), some (.ref al), some (.int (an : Int)), some (.int (bn : Int)), some (.ref la), some (.ref pa), q6, q7, q8]) ⟨rfl, alike, _, _, _, rfl⟩ (fun i σ H' _ p => by rw [p.1]; exact SqL.of A.top) (fun i x σ H' hx p => ?_) (fun σ H' p => ?_)
      · obtain ⟨rfl, alike', q6, q7, q8, rfl⟩ := p
        obtain ⟨ta, rfl, hta⟩ := ref_map_inv hx
        have hi : i < (Kp.drop k).length := by rw [← hlt]; exact (List.getElem?_eq_some_iff.mp hta).1
        obtain ⟨wa, hwa⟩ : ∃ wa, ws[i]? = some wa := ⟨_, List.getElem?_eq_getElem (by omega)⟩
        obtain ⟨e, he⟩ : ∃ e, (Kp.drop k)[i]? = some e := ⟨_, List.getElem?_eq_getElem hi⟩
        have heK : Kp[k + i]? = some e := by rw [← List.getElem?_drop]; exact he
        obtain ⟨⟨e1, e2⟩, e3, e4⟩ := kin e (List.mem_of_getElem? heK)
        have i1 : e.1.toNat < ls.length := by omega
        have i2 : e.2.1.toNat < ls.length := by omega
        have hL5 : SqL K H' al (ls.map V.bl) := sqL_same kp hL
        have lx : lampI ls e.1 = ls[e.1.toNat] := by unfold lampI; rw [List.getD_eq_getElem?_getD, List.getElem?_eq_getElem i1, Option.getD_some]
        have ly : lampI ls e.2.1 = ls[e.2.1.toNat] := by unfold lampI; rw [List.getD_eq_getElem?_getD, List.getElem?_eq_getElem i2, Option.getD_some]
        refine ⟨ta, _, rfl, SqT.of (A.trip i ta wa e hta hwa he), rfl, _, _, rfl, ?_⟩
        repeat walk_at "sx"
        refine ⟨_, _, rfl, ?_⟩
        repeat walk_at "sx"
        refine ⟨_, _, rfl, ?_⟩
        repeat walk_at "sx"
        refine ⟨rfl, ?_⟩
        repeat walk_at "sx"
        refine r_ixL hL5 (atI_get' e1 (bl_map_get (List.getElem?_eq_getElem i1))) ?_
        repeat walk_at "sx"
        refine r_ixL hL5 (atI_get' e3 (bl_map_get (List.getElem?_eq_getElem i2))) ?_
        refine r_ne rfl ?_
        repeat walk_at "sx"
        refine r_ite (fun hc => ?_) (fun hc => ?_)
        · have hne : lampI ls e.1 ≠ lampI ls e.2.1 := by rw [lx, ly]; intro z; rw [z] at hc; simp at hc
          repeat walk_at "sx"
          obtain ⟨o1, o2, o3⟩ := Px.ok e (List.mem_of_getElem? heK)
          have hwln := Px.wl _ _ heK
          refine qs H' wa e.2.2 kp (A.word i wa e hwa he) (new wa (List.mem_cons_of_mem _ (List.mem_of_getElem? hwa))).1 ⟨o1, by rw [← o2, ← o3]; exact hne, fun v ok hv => ?_⟩ (by omega)
          exact lampN_eq.mp (Px.least heK (f := lampN ls) alike' ok hv)
        · have heq : lampI ls e.1 = lampI ls e.2.1 := by rw [lx, ly]; simpa using hc
          repeat walk_at "sx"
          refine ⟨rfl, fun m e' hm he' => ?_, _, _, _, rfl⟩
          rcases Nat.lt_or_ge m (k + i) with h | h
          · exact alike' m e' h he'
          · have : m = k + i := by omega
            subst this
            rw [heK] at he'; cases he'
            exact lampN_eq.mpr heq
      · obtain ⟨rfl, alike', q6, q7, q8, rfl⟩ := p
        rw [List.length_map, hlt, hdl, Nat.add_sub_cancel' hk] at alike'
        repeat walk_at "sx"
        refine ⟨aw, rs, rss, pa, ts, ws, la, (an : Int), (bn : Int), d, Kp, k, rfl, M.same kp, W, hd1, hd6, h1000, by omega, by omega, by omega, by omega, A, hk, L, hlaM, fun hm => (new la hm).2 rfl, fun H6 fa ts' ws' Kp' Lv' => ?_⟩
        repeat walk_at "sx"
        refine ⟨fa, ts', ws', Kp', _, _, _, Lv'.le, fun x o e => Lv'.keep _ _ (ne_of_none e hla0) (kp _ _ e), Lv'.tr, fun x hx => ?_, Lv'.lk, fun i e hi he => ?_, rfl⟩
        · have h0 := Lv'.new x hx
          refine ⟨?_, fun z => by rw [z, hlx] at h0; cases h0⟩
          cases e' : H x with
          | none => rfl
          | some o => rw [kp x o e'] at h0; cases h0
        · rw [Lv'.pre i hi] at he
          exact alike' i e hi he
    · have hc : k = Kp.length := by simp at hc; omega
      repeat walk_at "sx"
      refine qn H5 kp fun w ok => ?_
      rcases st with ⟨_, h⟩ | ⟨L, _⟩
      · rw [h]
      · obtain ⟨lsx, rootx, distx, hlx, hlxn, Ux, Px⟩ := L.ex
        rw [hc] at Px
        exact lampN_eq.mp (Px.all (f := lampN ls) (fun e he => by
          obtain ⟨i, hi⟩ := List.getElem?_of_mem he
          exact alike i e (by rw [hc]; exact (List.getElem?_eq_some_iff.mp hi).1) hi) ok)
/-! #### check_room -/
theorem sc_check_room : FnScope ["house", "room"] ["house", "room"] (defScope s_check_room) := ⟨rfl, rfl, rfl, by decide +kernel, rfl, by decide +kernel, by decide +kernel⟩
theorem b_check_room (T : Txt K mg t) : Binds K t.fd_check_room ["house", "room"] [] := T.F_check_room.binds fun _ _ _ _ _ _ us hl => match us, hl with | [_, _], _ => rfl
def sp_check_room (C CN : Addr) : Sp := fun vs H Q E => ∃ (p : Addr) (d : Int) (aw : Addr) (rs : List Addr) (rss : List (List Int)) (al : Addr) (ls : List Bool) (a : Int), vs = [.ref p, .int a] ∧ HouseAt C H p d aw rs rss al ls ∧ -1000000 ≤ a ∧ a ≤ 1000000 ∧
  ((0 ≤ a ∧ a < rss.length) → Q .non H) ∧ (¬ (0 ≤ a ∧ a < rss.length) → E (.ref CN) none H)
theorem ok_check_room (T : Txt K mg t) : FnOk P w K mg base (CXr P w) 2 t.f_check_room t.fd_check_room ["house", "room"] (sp_check_room t.C_House t.C_NoRoom) := by
  refine T.F_check_room.okX sc_check_room (fun vs H Q E h => ?_) (fun cdv A outer s H vs Q E hr h => ?_)
  · obtain ⟨p, d, aw, rs, rss, al, ls, a, rfl, _⟩ := h
    rfl
  · obtain ⟨p, d, aw, rs, rss, al, ls, a, rfl, hh, s0, s1, q, qe⟩ := h
    obtain ⟨dx, ho⟩ := hh.ob
    have he : ¬ (0 ≤ a ∧ a < rss.length) → ∀ x : Str, ([V.str x] : List V).length ≤ sizeLine ∧ E (.ref t.C_NoRoom) none H := fun nv x => ⟨show 1 ≤ sizeLine by decide, qe nv⟩
    refine ⟨_, pss_one (ps_if (pt_not (pt_chain op_le op_lt (pe_int) (pv 1) (pe_meth0 (pv 0) T.cl_House T.me_House_rooms (ok_House_rooms T) (hr.mono (by decide)) (b_House_rooms T) .nil pass0)))
 (pss_one (ps_raise xm_def rfl rfl T.mg_NoRoom T.ex_NoRoom.toExcCls (pa_cons (pe_joined (pj_int (pv 1) (pj_str (pj_nil)))) (pa_nil))))
 (pss_nil)), ?_⟩
    repeat walk_at "sx"
    refine r_ite (fun x0 => ?_) (fun x0 => ?_)
    rotate_left
    · repeat walk_at "sx"
      refine r_iteP rfl ?_
      repeat walk_at "sx"
      refine ⟨_, rfl, small_log s0 s1, ?_⟩
      repeat walk_at "sx"
      exact he fun z => by have := z.1; simp at x0; omega
    have x0 := of_decide_eq_true x0
    repeat walk_at "sx"
    refine ⟨p, dx, _, rfl, ho, hfs_no _ _ _ (by decide +kernel) (by decide +kernel) (by decide +kernel), ?_⟩
    refine ⟨p, d, aw, rs, rss, al, ls, rfl, hh, ?_⟩
    repeat walk_at "sx"
    refine r_ite (fun x1 => ?_) (fun x1 => ?_)
    · repeat walk_at "sx"
      refine ⟨_, rfl, small_log s0 s1, ?_⟩
      repeat walk_at "sx"
      exact he fun z => by have := z.2; simp at x1; omega
    have x1 : a < rss.length := by simpa using x1
    repeat walk_at "sx"
    exact q ⟨x0, x1⟩
/-! #### apart -/
theorem sc_apart : FnScope ["house", "one", "other"] ["house", "one", "other"] (defScope s_apart) := ⟨rfl, rfl, rfl, by decide +kernel, rfl, by decide +kernel, by decide +kernel⟩
theorem b_apart (T : Txt K mg t) : Binds K t.fd_apart ["house", "one", "other"] [] := T.F_apart.binds fun _ _ _ _ _ _ us hl => match us, hl with | [_, _, _], _ => rfl
def sp_apart (K : PySem.W.Frag) (C CN : Addr) : Sp := fun vs H Q E => ∃ (p : Addr) (d : Int) (aw : Addr) (rs : List Addr) (rss : List (List Int)) (al : Addr) (ls : List Bool) (a b : Int), vs = [.ref p, .int a, .int b] ∧ HouseAt C H p d aw rs rss al ls ∧ Valid d rss ls ∧ -1000000 ≤ a ∧ a ≤ 1000000 ∧ -1000000 ≤ b ∧ b ≤ 1000000 ∧
  ((0 ≤ a ∧ a < rss.length ∧ 0 ≤ b ∧ b < rss.length) → (∀ H', Same H H' → (∀ w, WordOk d w → lampI ls (walkI rss a w) = lampI ls (walkI rss b w)) → Q .non H') ∧
    (∀ H' x w, Same H H' → H' x = some (.lst (w.map V.int)) → H x = none → Parts d rss rss ls ls a b w → w.length ≤ 1000 → Q (.ref x) H')) ∧ (¬ (0 ≤ a ∧ a < rss.length ∧ 0 ≤ b ∧ b < rss.length) → E (.ref CN) none H)
theorem ok_apart (T : Txt K mg t) : FnOk P w K mg base (CXr P w) 5 t.f_apart t.fd_apart ["house", "one", "other"] (sp_apart K t.C_House t.C_NoRoom) := by
  refine T.F_apart.okX sc_apart (fun vs H Q E h => ?_) (fun cdv A outer s H vs Q E hr h => ?_)
  · obtain ⟨p, d, aw, rs, rss, al, ls, a, b, rfl, _⟩ := h
    rfl
  · obtain ⟨p, d, aw, rs, rss, al, ls, a, b, rfl, hh, Vd, a0, a1, b0, b1, q, qe⟩ := h
    obtain ⟨dx, ho⟩ := hh.ob
    have h400 := Vd.r400
    refine ⟨_, pss_cons (ps_expr (pe_call (ok_check_room T) (hr.mono (by decide)) rfl T.mg_check_room T.F_check_room.kp (b_check_room T) .nil xp_def.pass (pa_cons (pv 0) (pa_cons (pv 1) (pa_nil)))))
 (pss_cons (ps_expr (pe_call (ok_check_room T) (hr.mono (by decide)) rfl T.mg_check_room T.F_check_room.kp (b_check_room T) .nil xp_def.pass (pa_cons (pv 0) (pa_cons (pv 2) (pa_nil)))))
 (pss_one (ps_ret (pe_call (ok_parting_word T) (hr.mono (by decide)) rfl T.mg_parting_word T.F_parting_word.kp (b_parting_word T) .nil pass0 (pa_cons (pe_fldK K (pv 0) rfl) (pa_cons (pe_fldK K (pv 0) rfl) (pa_cons (pv 1) (pa_cons (pv 2) (pa_nil))))))))), ?_⟩
    repeat walk_at "sx"
    refine ⟨p, d, aw, rs, rss, al, ls, a, rfl, hh, a0, a1, fun ha => ?_, fun na => qe fun z => na ⟨z.1, z.2.1⟩⟩
    repeat walk_at "sx"
    refine ⟨p, d, aw, rs, rss, al, ls, b, rfl, hh, b0, b1, fun hb => ?_, fun nb => qe fun z => nb ⟨z.2.2.1, z.2.2.2⟩⟩
    obtain ⟨q1, q2⟩ := q ⟨ha.1, ha.2, hb.1, hb.2⟩
    repeat walk_at "sx"
    refine ⟨_, rfl, p, _, dx, _, _, rfl, ho, T.cl_House, T.na_House_ways, hfs_ways _ _ _, ?_⟩
    repeat walk_at "sx"
    refine ⟨_, rfl, p, _, dx, _, _, rfl, ho, T.cl_House, T.na_House_lamps, hfs_lamps _ _ _, ?_⟩
    repeat walk_at "sx"
    exact ⟨aw, rs, rss, al, ls, a, b, d, rfl, hh.ways, SqL.of hh.lamps, Vd.toWays, Vd.d1, Vd.d6, by omega, Vd.ll, ha.1, ha.2, hb.1, hb.2, q1, q2⟩
/-! #### l_cell_at -/
theorem sc_l_cell_at : FnScope ["script", "k"] ["script", "k"] (defScope s_l_cell_at) := ⟨rfl, rfl, rfl, by decide +kernel, rfl, by decide +kernel, by decide +kernel⟩
theorem b_l_cell_at (T : Txt K mg t) : Binds K t.fd_l_cell_at ["script", "k"] [] := T.F_l_cell_at.binds fun _ _ _ _ _ _ us hl => match us, hl with | [_, _], _ => rfl
def sp_l_cell_at (K : PySem.W.Frag) : Sp := fun vs H Q _ => ∃ (a : Addr) (ns : List Int) (k : Int), vs = [.ref a, .int k] ∧ SqL K H a (ns.map V.int) ∧ 0 ≤ k ∧ Q (.int (cellv ns k)) H
theorem ok_l_cell_at (T : Txt K mg t) : FnOk P w K mg base CX0 1 t.f_l_cell_at t.fd_l_cell_at ["script", "k"] (sp_l_cell_at K) := by
  refine T.F_l_cell_at.ok sc_l_cell_at (fun vs H Q E h => ?_) (fun cdv A outer s H vs Q E hr h => ?_)
  · obtain ⟨a, ns, k, rfl, _⟩ := h
    rfl
  · obtain ⟨a, ns, k, rfl, hS, h0, q⟩ := h
    refine ⟨_, pss_cons (ps_if (pt_cmpR op_lt (pv 1) (pe_callB (call_len_seqK K) rfl T.m_len PySem.boot_len (pa_cons (pv 0) (pa_nil))) (nomark _))
 (pss_one (ps_ret (pe_ix (ix_listK K) (pv 0) (pv 1) (fun _ _ => rfl))))
 (pss_nil))
 (pss_one (ps_ret (pe_int))), ?_⟩
    repeat walk_at "sx"
    refine ⟨a, _, rfl, .inl hS, ?_⟩
    repeat walk_at "sx"
    refine r_ite (fun hc => ?_) (fun hc => ?_)
    · have hc : k < (ns.map V.int).length := of_decide_eq_true hc
      rw [List.length_map] at hc
      have hn : k.toNat < ns.length := by omega
      repeat walk_at "sx"
      refine r_ixL hS (atI_get' h0 (int_map_get (List.getElem?_eq_getElem hn))) ?_
      have e : cellv ns k = ns[k.toNat] := by
        unfold cellv
        rw [if_pos hc, List.getD_eq_getElem?_getD, List.getElem?_eq_getElem hn, Option.getD_some]
      rw [e] at q
      exact q
    · have hc : ¬ k < (ns.map V.int).length := of_decide_eq_false hc
      rw [List.length_map] at hc
      repeat walk_at "sx"
      have e : cellv ns k = 0 := by unfold cellv; rw [if_neg hc]
      rw [e] at q
      exact q
/-! #### l_draw -/
theorem sc_l_draw : FnScope ["cell", "k", "bound", "stir"] ["cell", "k", "bound"] (defScope s_l_draw) := ⟨rfl, rfl, rfl, by decide +kernel, rfl, by decide +kernel, by decide +kernel⟩
theorem b_l_draw (T : Txt K mg t) : Binds K t.fd_l_draw ["cell", "k", "bound"] [] := T.F_l_draw.binds fun _ _ _ _ _ _ us hl => match us, hl with | [_, _, _], _ => rfl
def sp_l_draw : Sp := fun vs H Q _ => ∃ c k b : Int, vs = [.int c, .int k, .int b] ∧ 0 < b ∧ Q (.int (draw c k b)) H
theorem ok_l_draw (T : Txt K mg t) : FnOk P w K mg base CX0 1 t.f_l_draw t.fd_l_draw ["cell", "k", "bound"] (sp_l_draw) := by
  refine T.F_l_draw.ok sc_l_draw (fun vs H Q E h => ?_) (fun cdv A outer s H vs Q E hr h => ?_)
  · obtain ⟨c, k, b, rfl, _⟩ := h
    rfl
  · obtain ⟨c, k, b, rfl, hb, q⟩ := h
    refine ⟨_, pss_cons (ps_set (i := 3) sc_l_draw.nd rfl (Or.inl rfl) (pe_op op_mod (pe_op op_mul (pe_op op_add (pe_op op_add (pe_op op_mod (pv 0) (pe_int)) (pe_op op_mul (pe_int) (pv 1))) (pe_int)) (pe_int)) (pe_int)))
 (pss_cons (ps_set (i := 3) sc_l_draw.nd rfl (Or.inl rfl) (pe_op op_mod (pe_op op_mul (pe_op op_add (pv 3) (pe_op op_mul (pe_int) (pe_op op_add (pv 1) (pe_int)))) (pe_int)) (pe_int)))
 (pss_one (ps_ret (pe_op op_mod (pe_op op_fdiv (pv 3) (pe_int)) (pv 2))))), ?_⟩
    repeat walk_at "sx"
    exact q
/-! #### l_ways_by -/
theorem sc_l_ways_by : FnScope ["cell", "doors", "rooms", "ways", "k"] ["cell", "doors", "rooms"] (defScope s_l_ways_by) := ⟨rfl, rfl, rfl, by decide +kernel, rfl, by decide +kernel, by decide +kernel⟩
theorem b_l_ways_by (T : Txt K mg t) : Binds K t.fd_l_ways_by ["cell", "doors", "rooms"] [] := T.F_l_ways_by.binds fun _ _ _ _ _ _ us hl => match us, hl with | [_, _, _], _ => rfl
def sp_l_ways_by : Sp := fun vs H Q _ => ∃ c d r : Int, vs = [.int c, .int d, .int r] ∧ 0 ≤ d ∧ d ≤ 1000 ∧ 0 ≤ r ∧ r ≤ 1000 ∧
  ∀ (a : Addr) (rs : List Addr) (H' : Hp), Same H H' → Mat H' a rs (waysBy c d r) → (∀ b ∈ a :: rs, H b = none) → Q (.ref a) H'
theorem ok_l_ways_by (T : Txt K mg t) : FnOk P w K mg base CX0 2 t.f_l_ways_by t.fd_l_ways_by ["cell", "doors", "rooms"] (sp_l_ways_by) := by
  refine T.F_l_ways_by.ok sc_l_ways_by (fun vs H Q E h => ?_) (fun cdv A outer s H vs Q E hr h => ?_)
  · obtain ⟨c, d, r, rfl, _⟩ := h
    rfl
  · obtain ⟨c, d, r, rfl, hd0, hd1, hr0, hr1, q⟩ := h
    refine ⟨_, pss_cons (ps_set (i := 3) sc_l_ways_by.nd rfl (Or.inl rfl) (pe_lst (pa_nil)))
 (pss_cons (ps_for PassesOwn.never rfl (pi_range1 rfl T.m_range (pa_cons (pv 2) (pa_nil))) (pg_name (i := 4) sc_l_ways_by.nd rfl (Or.inr rfl))
 (pss_one (ps_expr (pe_bmK K PySem.F.plainAttrs_list PySem.F.slot_list_append PySem.F.type_list_append mt_append (pv 3) (pa_cons (pe_comp (N := ["cell", "doors", "rooms", "ways", "k"]) (sc0 := (defScope s_l_ways_by)) (N' := ["door", "cell", "k", "rooms"]) (caps := [none, some 0, some 4, some 2]) (by exact ⟨rfl, by decide +kernel, by decide +kernel, by decide +kernel, rfl, rfl, by decide +kernel⟩) rfl (pi_range1 rfl T.m_range (pa_cons (pv 1) (pa_nil))) (fun _ _ _ _ _ _ => pg_name (i := 0) (show List.Nodup (["door", "cell", "k", "rooms"] : List Str) from by decide +kernel) rfl (Or.inl rfl)) (fun _ _ _ _ _ _ => pe_call (ok_l_draw T) (hr.mono (by decide)) rfl T.mg_l_draw T.F_l_draw.kp (b_l_draw T) .nil pass0 (pa_cons (pv 1) (pa_cons (pe_op op_add (pe_op op_mul (pe_int) (pv 2)) (pv 0)) (pa_cons (pv 3) (pa_nil)))))) (pa_nil))))))
 (pss_one (ps_ret (pv 3)))), ?_⟩
    repeat walk_at "sx"
    refine ⟨Nat.zero_le _, fun l hl => ?_⟩
    repeat walk_at "sx"
    refine ⟨_, rfl, by omega, by omega, ?_⟩
    refine for_range (fun i σ H' => ∃ rs kv, σ = [some (.int c), some (.int d), some (.int r), some (.ref l), kv] ∧ rs.length = i ∧ Grown H H' l rs (rowBy c d r)) ⟨[], none, rfl, rfl, Grown.start hl⟩ (fun i σ H1 hi p => ?_) (fun σ H1 p => ?_)
    · obtain ⟨rs, kv, rfl, hlen, G⟩ := p
      repeat walk_at "sx"
      refine ⟨.inl ⟨rfl, _, SqL.of G.top⟩, ?_⟩
      repeat walk_at "sx"
      refine ⟨_, rfl, by omega, by omega, ?_⟩
      have hrp : 0 < r := by omega
      refine comp_range (fun acc j ys H2 => ys = (List.range j).map (fun (j : Nat) => V.int (draw c (7 * (i : Int) + (j : Int)) r)) ∧ H2 = upd H1 acc (.lst ys)) (fun acc hacc => ⟨rfl, rfl⟩) (fun acc j ys H2 hacc hj p => ?_) (fun acc ys H2 hacc p => ?_)
      · obtain ⟨rfl, rfl⟩ := p
        repeat walk_at "sx"
        refine ⟨Wk.set rfl, ?_⟩
        repeat walk_at "sx"
        refine ⟨_, _, _, rfl, hrp, upd_same, small1000 (by simp; omega), ?_, ?_⟩
        · rw [map_range_snoc]; simp only [Int.zero_add]
        · rw [upd_upd]
      · obtain ⟨rfl, rfl⟩ := p
        repeat walk_at "sx"
        have hla : l ≠ acc := fun z => G.fresh hacc (by rw [z]; exact List.mem_cons_self)
        refine ⟨l, rs.map V.ref, _, rfl, rfl, (by rw [upd_ne hla]; exact G.top), small1000 (by simp; omega), ?_⟩
        refine ⟨rs ++ [acc], _, rfl, by simp [hlen], ?_⟩
        have := G.snoc hacc
        have e : (rowBy c d r rs.length).map V.int = (List.range d.toNat).map (fun (j : Nat) => V.int (draw c (7 * (i : Int) + (j : Int)) r)) := by
          unfold rowBy; rw [List.map_map, hlen]; rfl
        rw [e] at this
        exact this
    · obtain ⟨rs, kv, rfl, hlen, G⟩ := p
      repeat walk_at "sx"
      refine q l rs H1 G.same ?_ G.new
      have := G.mat
      rw [hlen] at this
      exact this
/-! #### l_lamps_by -/
theorem sc_l_lamps_by : FnScope ["cell", "rooms"] ["cell", "rooms"] (defScope s_l_lamps_by) := ⟨rfl, rfl, rfl, by decide +kernel, rfl, by decide +kernel, by decide +kernel⟩
theorem b_l_lamps_by (T : Txt K mg t) : Binds K t.fd_l_lamps_by ["cell", "rooms"] [] := T.F_l_lamps_by.binds fun _ _ _ _ _ _ us hl => match us, hl with | [_, _], _ => rfl
def sp_l_lamps_by : Sp := fun vs H Q _ => ∃ c r : Int, vs = [.int c, .int r] ∧ 0 ≤ r ∧ r ≤ 1000 ∧ ∀ (a : Addr), H a = none → Q (.ref a) (upd H a (.lst ((lampsBy c r).map V.bl)))
theorem ok_l_lamps_by (T : Txt K mg t) : FnOk P w K mg base CX0 2 t.f_l_lamps_by t.fd_l_lamps_by ["cell", "rooms"] (sp_l_lamps_by) := by
  refine T.F_l_lamps_by.ok sc_l_lamps_by (fun vs H Q E h => ?_) (fun cdv A outer s H vs Q E hr h => ?_)
  · obtain ⟨c, r, rfl, _⟩ := h
    rfl
  · obtain ⟨c, r, rfl, hr0, hr1, q⟩ := h
    refine ⟨_, pss_one (ps_ret (pe_comp (N := ["cell", "rooms"]) (sc0 := (defScope s_l_lamps_by)) (N' := ["k", "cell"]) (caps := [none, some 0]) (by exact ⟨rfl, by decide +kernel, by decide +kernel, by decide +kernel, rfl, rfl, by decide +kernel⟩) rfl (pi_range1 rfl T.m_range (pa_cons (pv 1) (pa_nil))) (fun _ _ _ _ _ _ => pg_name (i := 0) (show List.Nodup (["k", "cell"] : List Str) from by decide +kernel) rfl (Or.inl rfl)) (fun _ _ _ _ _ _ => pe_cmpR op_eq (pe_call (ok_l_draw T) (hr.mono (by decide)) rfl T.mg_l_draw T.F_l_draw.kp (b_l_draw T) .nil pass0 (pa_cons (pv 1) (pa_cons (pv 0) (pa_cons (pe_int) (pa_nil))))) (pe_int) (nomark _)))), ?_⟩
    repeat walk_at "sx"
    refine ⟨_, rfl, by omega, by omega, ?_⟩
    refine comp_range (fun acc j ys H2 => ys = (List.range j).map (fun (k : Nat) => V.bl (decide (draw c (k : Int) 2 = 1))) ∧ H2 = upd H acc (.lst ys)) (fun acc hacc => ⟨rfl, rfl⟩) (fun acc j ys H2 hacc hj p => ?_) (fun acc ys H2 hacc p => ?_)
    · obtain ⟨rfl, rfl⟩ := p
      repeat walk_at "sx"
      refine ⟨Wk.set rfl, ?_⟩
      repeat walk_at "sx"
      refine ⟨_, _, _, rfl, by decide, ?_⟩
      repeat walk_at "sx"
      refine r_eq rfl ⟨upd_same, small1000 (by simp; omega), ?_, ?_⟩
      · rw [map_range_snoc, dec_int]; simp only [Int.zero_add]; rfl
      · rw [upd_upd]
    · obtain ⟨rfl, rfl⟩ := p
      have := q acc hacc
      unfold lampsBy at this
      rw [List.map_map] at this
      exact this
/-! #### l_walk -/
theorem sc_l_walk : FnScope ["ways", "room", "word", "door"] ["ways", "room", "word"] (defScope s_l_walk) := ⟨rfl, rfl, rfl, by decide +kernel, rfl, by decide +kernel, by decide +kernel⟩
theorem b_l_walk (T : Txt K mg t) : Binds K t.fd_l_walk ["ways", "room", "word"] [] := T.F_l_walk.binds fun _ _ _ _ _ _ us hl => match us, hl with | [_, _, _], _ => rfl
def sp_l_walk (K : PySem.W.Frag) : Sp := fun vs H Q _ => ∃ (a : Addr) (rs : List Addr) (rss : List (List Int)) (d q : Int) (b : Addr) (ws : List Int), vs = [.ref a, .int q, .ref b] ∧ Mat H a rs rss ∧ Ways d rss ∧ SqL K H b (ws.map V.int) ∧ WordOk d ws ∧ 0 ≤ q ∧ q < rss.length ∧ Q (.int (walkI rss q ws)) H
theorem ok_l_walk (T : Txt K mg t) : FnOk P w K mg base CX0 1 t.f_l_walk t.fd_l_walk ["ways", "room", "word"] (sp_l_walk K) := by
  refine T.F_l_walk.ok sc_l_walk (fun vs H Q E h => ?_) (fun cdv A outer s H vs Q E hr h => ?_)
  · obtain ⟨a, rs, rss, d, q, b, ws, rfl, _⟩ := h
    rfl
  · obtain ⟨a, rs, rss, d, q, b, ws, rfl, M, W, hS, hw, h0, h1, k⟩ := h
    refine ⟨_, pss_cons (ps_for PassesOwn.never rfl (pi_listK K (pv 2)) (pg_name (i := 3) sc_l_walk.nd rfl (Or.inl rfl))
 (pss_one (ps_set (i := 1) sc_l_walk.nd rfl (Or.inl rfl) (pe_ix (ix_listK K) (pe_ix (ix_listK K) (pv 0) (pv 1) (fun _ _ => rfl)) (pv 3) (fun _ _ => rfl)))))
 (pss_one (ps_ret (pv 1))), ?_⟩
    repeat walk_at "sx"
    refine ⟨b, rfl, ⟨_, hS⟩, ?_⟩
    refine for_list (xs := ws.map V.int) (fun i σ H' => H' = H ∧ ∃ kv, σ = [some (.ref a), some (.int (walkI rss q (ws.take i))), some (.ref b), kv]) ⟨rfl, none, rfl⟩ (fun i σ H' _ p => by rw [p.1]; exact hS) (fun i x σ H' hx p => ?_) (fun σ H' p => ?_)
    · obtain ⟨rfl, kv, rfl⟩ := p
      have hx0 := int_map_inv hx
      clear hx
      obtain ⟨x, rfl, hx⟩ := hx0
      obtain ⟨x0, x1⟩ := hw x (List.mem_of_getElem? hx)
      obtain ⟨b0, b1⟩ := walkI_in W (hw.take i) h0 h1
      obtain ⟨row, e1, e2, _, _⟩ := step_in W b0 b1 x0 x1
      obtain ⟨r, e3, e4, e5⟩ := M.get e1
      repeat walk_at "sx"
      refine r_ixL (SqL.of M.top) (atI_get' b0 e4) ?_
      repeat walk_at "sx"
      refine r_ixL (SqL.of e5) (atI_get' x0 (int_map_get e2)) ?_
      repeat walk_at "sx"
      refine ⟨rfl, some (.int x), ?_⟩
      rw [take_snoc hx, walkI_snoc]
      rfl
    · obtain ⟨rfl, kv, rfl⟩ := p
      repeat walk_at "sx"
      rw [List.length_map, List.take_length]
      exact k
/-! #### l_whole -/
theorem sc_l_whole : FnScope ["found"] ["found"] (defScope s_l_whole) := ⟨rfl, rfl, rfl, by decide +kernel, rfl, by decide +kernel, by decide +kernel⟩
theorem b_l_whole (T : Txt K mg t) : Binds K t.fd_l_whole ["found"] [] := T.F_l_whole.binds fun _ _ _ _ _ _ us hl => match us, hl with | [_], _ => rfl
def sp_l_whole : Sp := fun vs H Q _ => ∃ i : Int, vs = [.int i] ∧ Q (.bl true) H
theorem ok_l_whole (T : Txt K mg t) : FnOk P w K mg base CX0 1 t.f_l_whole t.fd_l_whole ["found"] (sp_l_whole) := by
  refine T.F_l_whole.ok sc_l_whole (fun vs H Q E h => ?_) (fun cdv A outer s H vs Q E hr h => ?_)
  · obtain ⟨i, rfl, _⟩ := h
    rfl
  · obtain ⟨i, rfl, q⟩ := h
    refine ⟨_, pss_one (ps_ret (pe_and (pe_callB (call_isinstK K) rfl T.m_isinstance boot_isinstance (pa_cons (pv 0) (pa_cons (pe_bltn (v := .ty "int") rfl T.m_int boot_int rfl) (pa_nil)))) (pe_one (pe_not (pe_callB (call_isinstK K) rfl T.m_isinstance boot_isinstance (pa_cons (pv 0) (pa_cons (pe_bltn (v := .ty "bool") rfl T.m_bool boot_bool rfl) (pa_nil)))))))), ?_⟩
    repeat walk_at "sx"
    refine ⟨_, _, _, _, true, rfl, .int i, rfl, rfl, ?_⟩
    repeat walk_at "sx"
    refine r_iteP rfl ?_
    repeat walk_at "sx"
    refine ⟨_, _, _, _, false, rfl, .int i, rfl, ki_ib K, ?_⟩
    repeat walk_at "sx"
    exact q
/-! #### l_is_word -/
theorem sc_l_is_word : FnScope ["found", "doors", "part"] ["found", "doors"] (defScope s_l_is_word) := ⟨rfl, rfl, rfl, by decide +kernel, rfl, by decide +kernel, by decide +kernel⟩
theorem b_l_is_word (T : Txt K mg t) : Binds K t.fd_l_is_word ["found", "doors"] [] := T.F_l_is_word.binds fun _ _ _ _ _ _ us hl => match us, hl with | [_, _], _ => rfl
def sp_l_is_word (K : PySem.W.Frag) : Sp := fun vs H Q _ => ∃ (a : Addr) (ns : List Int) (d : Int), vs = [.ref a, .int d] ∧ H a = some (.lst (ns.map V.int)) ∧ WordOk d ns ∧ Q (.bl true) H
theorem ok_l_is_word (T : Txt K mg t) : FnOk P w K mg base CX0 2 t.f_l_is_word t.fd_l_is_word ["found", "doors"] (sp_l_is_word K) := by
  refine T.F_l_is_word.ok sc_l_is_word (fun vs H Q E h => ?_) (fun cdv A outer s H vs Q E hr h => ?_)
  · obtain ⟨a, ns, d, rfl, _⟩ := h
    rfl
  · obtain ⟨a, ns, d, rfl, ha, ok, q⟩ := h
    refine ⟨_, pss_cons (ps_if (pt_not (pt_val (pe_callB (call_isinstK K) rfl T.m_isinstance boot_isinstance (pa_cons (pv 0) (pa_cons (pe_bltn (v := .ty "list") rfl T.m_list boot_list rfl) (pa_nil))))))
 (pss_one (ps_ret (pe_bl)))
 (pss_nil))
 (pss_cons (ps_for PassesOwn.never rfl (pi_listK K (pv 0)) (pg_name (i := 2) sc_l_is_word.nd rfl (Or.inl rfl))
 (pss_one (ps_if (PW.pt (pw_or (pt_not (pt_val (pe_call (ok_l_whole T) (hr.mono (by decide)) rfl T.mg_l_whole T.F_l_whole.kp (b_l_whole T) .nil pass0 (pa_cons (pv 2) (pa_nil))))) (pw_or1 (pt_not (pt_chain op_le op_lt (pe_int) (pv 2) (pv 1))))))
 (pss_one (ps_ret (pe_bl)))
 (pss_nil))))
 (pss_one (ps_ret (pe_bl)))), ?_⟩
    repeat walk_at "sx"
    refine ⟨_, _, _, _, true, rfl, .lst ha, rfl, rfl, ?_⟩
    repeat walk_at "sx"
    refine r_iteN rfl ?_
    repeat walk_at "sx"
    refine ⟨a, rfl, ⟨_, SqL.of ha⟩, ?_⟩
    refine for_list (xs := ns.map V.int) (fun i σ H' => H' = H ∧ ∃ kv, σ = [some (.ref a), some (.int d), kv]) ⟨rfl, none, rfl⟩ (fun i σ H' _ p => by rw [p.1]; exact SqL.of ha) (fun i x σ H' hx p => ?_) (fun σ H' p => ?_)
    · obtain ⟨rfl, kv, rfl⟩ := p
      have hx0 := int_map_inv hx
      clear hx
      obtain ⟨x, rfl, hx⟩ := hx0
      obtain ⟨x0, x1⟩ := ok x (List.mem_of_getElem? hx)
      repeat walk_at "sx"
      refine ⟨x, rfl, ?_⟩
      repeat walk_at "sx"
      refine r_iteN rfl ?_
      repeat walk_at "sx"
      refine r_iteP (decide_eq_true x0) ?_
      repeat walk_at "sx"
      refine r_iteN (by simp [x1]) ?_
      repeat walk_at "sx"
      exact ⟨rfl, _, rfl⟩
    · obtain ⟨rfl, kv, rfl⟩ := p
      repeat walk_at "sx"
      exact q
/-! #### l_part -/
theorem sc_l_part : FnScope ["ways", "lamps", "left", "others", "lights", "right", "rows", "met", "k", "door", "to", "go"] ["ways", "lamps", "left", "others", "lights", "right"] (defScope s_l_part) := ⟨rfl, rfl, rfl, by decide +kernel, rfl, by decide +kernel, by decide +kernel⟩
theorem b_l_part (T : Txt K mg t) : Binds K t.fd_l_part ["ways", "lamps", "left", "others", "lights", "right"] [] := T.F_l_part.binds fun _ _ _ _ _ _ us hl => match us, hl with | [_, _, _, _, _, _], _ => rfl
abbrev PK := Int × Int
def stP (rss rss2 : List (List Int)) : PK → Int → PK := fun p x => (step rss p.1 x, step rss2 p.2 x)
theorem walkP (rss rss2 : List (List Int)) (a b : Int) (w : List Int) : walkG (stP rss rss2) (a, b) w = (walkI rss a w, walkI rss2 b w) := by
  unfold walkG walkI
  induction w generalizing a b with
  | nil => rfl
  | cons x w ih => exact ih (step rss a x) (step rss2 b x)
def sp_l_part (K : PySem.W.Frag) : Sp := fun vs H Q _ => ∃ (aw : Addr) (rs : List Addr) (rss : List (List Int)) (al : Addr) (ls : List Bool) (a : Int) (ao : Addr) (rs2 : List Addr) (rss2 : List (List Int)) (ol : Addr) (ls2 : List Bool) (b d : Int), vs = [.ref aw, .ref al, .int a, .ref ao, .ref ol, .int b] ∧ Mat H aw rs rss ∧ SqL K H al (ls.map V.bl) ∧ Mat H ao rs2 rss2 ∧ SqL K H ol (ls2.map V.bl) ∧ PairIn d rss rss2 ls ls2 a b ∧
  (∀ H', Same H H' → (∀ w, WordOk d w → lampI ls (walkI rss a w) = lampI ls2 (walkI rss2 b w)) → Q .non H') ∧
  (∀ H' p w, Same H H' → H' p = some (.lst (w.map V.int)) → H p = none → Parts d rss rss2 ls ls2 a b w → Q (.ref p) H')
def metKV (L : List (PK × List Int)) : List (List Key × V) := L.map fun e => ([.inl e.1.1, .inl e.1.2], .bl true)
structure PB (H H' : Hp) (ra md : Addr) (L : List (PK × List Int)) (ts ws : List Addr) : Prop where
  same : Same H H'
  rows : H' ra = some (.lst (ts.map V.ref))
  lt : ts.length = L.length
  lw : ws.length = L.length
  trip : ∀ (i : Nat) (t w : Addr) (e : PK × List Int), ts[i]? = some t → ws[i]? = some w → L[i]? = some e → H' t = some (.lst [.ref w, .int e.1.1, .int e.1.2])
  word : ∀ (i : Nat) (w : Addr) (e : PK × List Int), ws[i]? = some w → L[i]? = some e → H' w = some (.lst (e.2.map V.int))
  met : H' md = some (.dT (metKV L))
  nra : H ra = none
  nmd : H md = none
  nw : ∀ b ∈ ws, H b = none
  ne : ra ≠ md
  out : ∀ b ∈ ts ++ ws, b ≠ ra ∧ b ≠ md
theorem PB.tick {H H' H2 : Hp} {ra md : Addr} {L : List (PK × List Int)} {ts ws : List Addr} (B : PB H H' ra md L ts ws) (s : Same H' H2) : PB H H2 ra md L ts ws :=
  ⟨B.same.trans s, s _ _ B.rows, B.lt, B.lw, fun i t w e h1 h2 h3 => s _ _ (B.trip i t w e h1 h2 h3), fun i w e h1 h2 => s _ _ (B.word i w e h1 h2), s _ _ B.met, B.nra, B.nmd, B.nw, B.ne, B.out⟩
theorem PB.add {H H1 H3 : Hp} {ra md p2 t2 : Addr} {L : List (PK × List Int)} {ts ws : List Addr} (B : PB H H1 ra md L ts ws) {e : PK × List Int} (s : Same (upd H1 md (.dT (metKV L ++ [([.inl e.1.1, .inl e.1.2], .bl true)]))) H3) (hp : (upd H1 md (.dT (metKV L ++ [([.inl e.1.1, .inl e.1.2], .bl true)]))) p2 = none) (ht : (upd H1 md (.dT (metKV L ++ [([.inl e.1.1, .inl e.1.2], .bl true)]))) t2 = none)
    (hp3 : H3 p2 = some (.lst (e.2.map V.int))) (ht3 : H3 t2 = some (.lst [.ref p2, .int e.1.1, .int e.1.2])) :
    PB H (upd H3 ra (.lst (ts.map V.ref ++ [.ref t2]))) ra md (L ++ [e]) (ts ++ [t2]) (ws ++ [p2]) := by
  have hmd : ∀ b o, H1 b = some o → b ≠ md → H3 b = some o := fun b o h hb => s b o (by rw [upd_ne hb]; exact h)
  have pm : p2 ≠ md := fun z => by rw [z, upd_same] at hp; cases hp
  have tm : t2 ≠ md := fun z => by rw [z, upd_same] at ht; cases ht
  rw [upd_ne pm] at hp
  rw [upd_ne tm] at ht
  have pr : p2 ≠ ra := fun z => by have := B.rows; rw [← z, hp] at this; cases this
  have tr : t2 ≠ ra := fun z => by have := B.rows; rw [← z, ht] at this; cases this
  have H3md : H3 md = some (.dT (metKV L ++ [([.inl e.1.1, .inl e.1.2], .bl true)])) := s md _ upd_same
  have s0 : Same H H3 := fun b o h => hmd b o (B.same b o h) (ne_of_none h B.nmd)
  refine ⟨s0.upd_fresh B.nra, by rw [upd_same, List.map_append]; rfl, by simp [B.lt], by simp [B.lw], fun i t w f h1 h2 h3 => ?_, fun i w f h1 h2 => ?_, ?_, B.nra, B.nmd, fun b hb => ?_, B.ne, fun b hb => ?_⟩
  · rcases getElem?_snoc h3 with ⟨hl, h3⟩ | ⟨hl, rfl⟩
    · rw [List.getElem?_append_left (by rw [B.lt]; exact hl)] at h1
      rw [List.getElem?_append_left (by rw [B.lw]; exact hl)] at h2
      obtain ⟨o1, o2⟩ := B.out t (List.mem_append_left _ (List.mem_of_getElem? h1))
      rw [upd_ne o1]; exact hmd _ _ (B.trip i t w f h1 h2 h3) o2
    · rcases getElem?_snoc h1 with ⟨h, _⟩ | ⟨_, rfl⟩
      · rw [B.lt] at h; omega
      · rcases getElem?_snoc h2 with ⟨h, _⟩ | ⟨_, rfl⟩
        · rw [B.lw] at h; omega
        · rw [upd_ne tr]; exact ht3
  · rcases getElem?_snoc h2 with ⟨hl, h2⟩ | ⟨hl, rfl⟩
    · rw [List.getElem?_append_left (by rw [B.lw]; exact hl)] at h1
      obtain ⟨o1, o2⟩ := B.out w (List.mem_append_right _ (List.mem_of_getElem? h1))
      rw [upd_ne o1]; exact hmd _ _ (B.word i w f h1 h2) o2
    · rcases getElem?_snoc h1 with ⟨h, _⟩ | ⟨_, rfl⟩
      · rw [B.lw] at h; omega
      · rw [upd_ne pr]; exact hp3
  · rw [upd_ne (Ne.symm B.ne), H3md]; unfold metKV; rw [List.map_append]; rfl
  · rcases List.mem_append.mp hb with hb | hb
    · exact B.nw b hb
    · rw [List.mem_singleton.mp hb]; exact B.same.free hp
  · have hb : b ∈ (ts ++ [t2]) ++ (ws ++ [p2]) := hb
    simp only [List.mem_append, List.mem_singleton] at hb
    rcases hb with (hb | rfl) | (hb | rfl)
    · exact B.out b (List.mem_append_left _ hb)
    · exact ⟨tr, tm⟩
    · exact B.out b (List.mem_append_right _ hb)
    · exact ⟨pr, pm⟩
theorem metKV_none {r : PK} : ∀ {L : List (PK × List Int)}, hasKeyG L r = false → valV (metKV L) [.inl r.1, .inl r.2] = none
  | [], _ => rfl
  | e :: L, h => by
    have h' : ¬ e.1 = r ∧ hasKeyG L r = false := by simpa [hasKeyG] using h
    show valV ((([.inl e.1.1, .inl e.1.2] : List Key), V.bl true) :: metKV L) _ = _
    rw [valV_neg (fun z => h'.1 (by injection z with z1 z2; injection z2 with z2 _; exact Prod.ext (Sum.inl.inj z1) (Sum.inl.inj z2)))]
    exact metKV_none h'.2
theorem metKV_some {r : PK} : ∀ {L : List (PK × List Int)}, hasKeyG L r = true → (valV (metKV L) [.inl r.1, .inl r.2]).isSome = true
  | [], h => by simp [hasKeyG] at h
  | e :: L, h => by
    show (valV ((([.inl e.1.1, .inl e.1.2] : List Key), V.bl true) :: metKV L) _).isSome = _
    by_cases z : e.1 = r
    · rw [valV_pos (by rw [z])]; rfl
    · rw [valV_neg (fun y => z (by injection y with z1 z2; injection z2 with z2 _; exact Prod.ext (Sum.inl.inj z1) (Sum.inl.inj z2)))]
      exact metKV_some (by simpa [hasKeyG, z] using h)
theorem ok_l_part (T : Txt K mg t) : FnOk P w K mg base CX0 1 t.f_l_part t.fd_l_part ["ways", "lamps", "left", "others", "lights", "right"] (sp_l_part K) := by
  refine T.F_l_part.ok sc_l_part (fun vs H Q E h => ?_) (fun cdv A outer s H vs Q E hr h => ?_)
  · obtain ⟨aw, rs, rss, al, ls, a, ao, rs2, rss2, ol, ls2, b, d, rfl, _⟩ := h
    rfl
  · obtain ⟨aw, rs, rss, al, ls, a, ao, rs2, rss2, ol, ls2, b, d, rfl, M, hL, M2, hL2, PI, qn, qs⟩ := h
    refine exO (pssO_cons (ps_set (i := 6) sc_l_part.nd rfl (Or.inl rfl) (pe_lst (pa_cons (pe_lst (pa_cons (pe_lst (pa_nil)) (pa_cons (pv 2) (pa_cons (pv 5) (pa_nil))))) (pa_nil))))
 (pssO_consT (i := 7) hr.units1 sc_l_part.nd rfl (Or.inl rfl) (pe_tup (pa_cons (pv 2) (pa_cons (pv 5) (pa_nil)))) (pe_bl)
 (pss_cons (ps_set (i := 8) sc_l_part.nd rfl (Or.inl rfl) (pe_int))
 (pss_cons (ps_while PassesOwn.never (pt_cmpR op_lt (pv 8) (pe_callB (call_len_seqK K) rfl T.m_len PySem.boot_len (pa_cons (pv 6) (pa_nil))) (nomark _))
 (pss_cons (ps_if (pt_cmpR op_ne (pe_ix (ix_listK K) (pv 1) (pe_ix (ix_listK K) (pe_ix (ix_listK K) (pv 6) (pv 8) (fun _ _ => rfl)) (pe_int) (fun _ _ => rfl)) (fun _ _ => rfl)) (pe_ix (ix_listK K) (pv 4) (pe_ix (ix_listK K) (pe_ix (ix_listK K) (pv 6) (pv 8) (fun _ _ => rfl)) (pe_int) (fun _ _ => rfl)) (fun _ _ => rfl)) (nomark _))
 (pss_one (ps_ret (pe_ix (ix_listK K) (pe_ix (ix_listK K) (pv 6) (pv 8) (fun _ _ => rfl)) (pe_int) (fun _ _ => rfl))))
 (pss_nil))
 (pss_cons (ps_for PassesOwn.never rfl (pi_range1 rfl T.m_range (pa_cons (pe_callB (call_len_seqK K) rfl T.m_len PySem.boot_len (pa_cons (pe_ix (ix_listK K) (pv 0) (pe_int) (fun _ _ => rfl)) (pa_nil))) (pa_nil))) (pg_name (i := 9) sc_l_part.nd rfl (Or.inl rfl))
 (pss_cons (ps_set (i := 10) sc_l_part.nd rfl (Or.inl rfl) (pe_ix (ix_listK K) (pe_ix (ix_listK K) (pv 0) (pe_ix (ix_listK K) (pe_ix (ix_listK K) (pv 6) (pv 8) (fun _ _ => rfl)) (pe_int) (fun _ _ => rfl)) (fun _ _ => rfl)) (pv 9) (fun _ _ => rfl)))
 (pss_cons (ps_set (i := 11) sc_l_part.nd rfl (Or.inl rfl) (pe_ix (ix_listK K) (pe_ix (ix_listK K) (pv 3) (pe_ix (ix_listK K) (pe_ix (ix_listK K) (pv 6) (pv 8) (fun _ _ => rfl)) (pe_int) (fun _ _ => rfl)) (fun _ _ => rfl)) (pv 9) (fun _ _ => rfl)))
 (pss_one (ps_join (ps_if (pt_cmp (pc_dnotin hr.units1 (pe_tup (pa_cons (pv 10) (pa_cons (pv 11) (pa_nil)))) (pv 7)))
 (pss_cons (ps_dput hr.units1 (pv 7) (pe_tup (pa_cons (pv 10) (pa_cons (pv 11) (pa_nil)))) (pe_bl) rfl)
 (pss_one (ps_expr (pe_bmK K PySem.F.plainAttrs_list PySem.F.slot_list_append PySem.F.type_list_append mt_append (pv 6) (pa_cons (pe_lst (pa_cons (pe_op op_cat (pe_ix (ix_listK K) (pe_ix (ix_listK K) (pv 6) (pv 8) (fun _ _ => rfl)) (pe_int) (fun _ _ => rfl)) (pe_lst (pa_cons (pv 9) (pa_nil)))) (pa_cons (pv 10) (pa_cons (pv 11) (pa_nil))))) (pa_nil))))))
 (pss_nil)))))))
 (pss_one (ps_set (i := 8) sc_l_part.nd rfl (Or.inl rfl) (pe_op op_add (pv 8) (pe_int)))))))
 (pss_one (ps_ret (pe_non))))))) ?_
    have hP0 : walkG (stP rss rss2) (a, b) [] = (a, b) := rfl
    repeat walk_at "sx"
    refine ⟨Nat.zero_le _, fun w0 hw0 => ?_⟩
    repeat walk_at "sx"
    refine ⟨by show 3 ≤ sizeLine; decide, fun t0 ht0 => ?_⟩
    repeat walk_at "sx"
    refine ⟨by show 1 ≤ sizeLine; decide, fun ra hra => ?_⟩
    repeat walk_at "sx"
    intro md hmd
    repeat walk_at "sx"
    refine ⟨by show 2 ≤ sizeLine; decide, fun tp htp => ?_⟩
    repeat walk_at "sx"
    have n_wt : w0 ≠ t0 := fun z => by rw [← z, upd_same] at ht0; cases ht0
    have n_tr : t0 ≠ ra := fun z => by rw [← z, upd_same] at hra; cases hra
    have n_rm : ra ≠ md := fun z => by rw [← z, upd_same] at hmd; cases hmd
    have n_mt : md ≠ tp := fun z => by rw [← z, upd_same] at htp; cases htp
    have f_t0 : H t0 = none := by rw [upd_ne (Ne.symm n_wt)] at ht0; exact ht0
    have f_ra : H ra = none ∧ ra ≠ w0 := by
      rw [upd_ne (Ne.symm n_tr)] at hra
      have : ra ≠ w0 := fun z => by rw [z, upd_same] at hra; cases hra
      rw [upd_ne this] at hra; exact ⟨hra, this⟩
    have f_md : H md = none ∧ md ≠ t0 ∧ md ≠ w0 := by
      rw [upd_ne (Ne.symm n_rm)] at hmd
      have h1 : md ≠ t0 := fun z => by rw [z, upd_same] at hmd; cases hmd
      rw [upd_ne h1] at hmd
      have h2 : md ≠ w0 := fun z => by rw [z, upd_same] at hmd; cases hmd
      rw [upd_ne h2] at hmd; exact ⟨hmd, h1, h2⟩
    refine ⟨tp, [.inl a, .inl b], rfl, upd_same, by rw [upd_ne n_mt]; exact upd_same, ?_⟩
    have f_tp : H tp = none := by
      have := htp
      rw [upd_ne (Ne.symm n_mt)] at this
      exact (((Same.upd_new hw0).trans (Same.upd_new ht0)).trans (Same.upd_new hra)).free this
    have B0 : PB H (upd (upd (upd (upd (upd (upd H w0 (.lst [])) t0 (.lst [.ref w0, .int a, .int b])) ra (.lst [.ref t0])) md (.dT [])) tp (.tup [.int a, .int b])) md (.dT [([.inl a, .inl b], .bl true)])) ra md [((a, b), [])] [t0] [w0] := by
      have n_rtp : ra ≠ tp := fun z => by rw [← z, upd_ne n_rm, upd_same] at htp; cases htp
      have n_ttp : t0 ≠ tp := fun z => by rw [← z, upd_ne (Ne.symm f_md.2.1), upd_ne n_tr, upd_same] at htp; cases htp
      have n_wtp : w0 ≠ tp := fun z => by rw [← z, upd_ne (Ne.symm f_md.2.2), upd_ne (Ne.symm f_ra.2), upd_ne n_wt, upd_same] at htp; cases htp
      refine ⟨((((((Same.upd_new hw0).upd_fresh f_t0).upd_fresh f_ra.1).upd_fresh f_md.1).upd_fresh f_tp).upd_fresh f_md.1), ?_, rfl, rfl, fun i t w e h1 h2 h3 => ?_, fun i w e h1 h2 => ?_, upd_same, f_ra.1, f_md.1, fun b hb => by rw [List.mem_singleton.mp hb]; exact hw0, n_rm, fun b hb => ?_⟩
      · rw [upd_ne n_rm, upd_ne n_rtp, upd_ne n_rm, upd_same]; rfl
      · cases i with
        | zero =>
          cases h1; cases h2; cases h3
          rw [upd_ne (Ne.symm f_md.2.1), upd_ne n_ttp, upd_ne (Ne.symm f_md.2.1), upd_ne n_tr, upd_same]
        | succ i => simp at h1
      · cases i with
        | zero =>
          cases h1; cases h2
          rw [upd_ne (Ne.symm f_md.2.2), upd_ne n_wtp, upd_ne (Ne.symm f_md.2.2), upd_ne (Ne.symm f_ra.2), upd_ne n_wt, upd_same]; rfl
        | succ i => simp at h1
      · have hb : b = t0 ∨ b = w0 := by simpa using hb
        rcases hb with rfl | rfl
        · exact ⟨n_tr, Ne.symm f_md.2.1⟩
        · exact ⟨Ne.symm f_ra.2, Ne.symm f_md.2.2⟩
    generalize upd (upd (upd (upd (upd (upd H w0 (.lst [])) t0 (.lst [.ref w0, .int a, .int b])) ra (.lst [.ref t0])) md (.dT [])) tp (.tup [.int a, .int b])) md (.dT [([.inl a, .inl b], .bl true)]) = H0 at B0 ⊢
    repeat walk_at "sx"
    have hW1 := PI.w1
    have hW2 := PI.w2
    have hd1 := PI.d1
    have hd6 := PI.d6
    have hsz := PI.sz
    have inR : ∀ {w : List Int}, WordOk d w → (0 ≤ walkI rss a w ∧ walkI rss a w < rss.length) ∧ (0 ≤ walkI rss2 b w ∧ walkI rss2 b w < rss2.length) := fun {w} ok => ⟨walkI_in hW1 ok PI.a0 PI.a1, walkI_in hW2 ok PI.b0 PI.b1⟩
    have keyR : ∀ {k j : Nat} {L : List (PK × List Int)}, BIG (stP rss rss2) (a, b) d k j L → ∀ e ∈ L, (0 ≤ e.1.1 ∧ e.1.1 < rss.length) ∧ (0 ≤ e.1.2 ∧ e.1.2 < rss2.length) := fun {k j L} B e he => by
      obtain ⟨h1, h2⟩ := B.ok e he
      rw [walkP] at h2
      have := inR h1
      rw [← h2]; exact this
    have lenR : ∀ {k j : Nat} {L : List (PK × List Int)}, BIG (stP rss rss2) (a, b) d k j L → L.length ≤ rss.length * rss2.length := fun {k j L} B => by
      have h := nodup_le (rss.length * rss2.length) (L.map fun e => e.1.1.toNat * rss2.length + e.1.2.toNat) ?_ ?_
      · simpa using h
      · rw [List.nodup_iff_pairwise_ne, List.pairwise_map]
        have hnd := List.nodup_iff_pairwise_ne.mp B.nd
        rw [List.pairwise_map] at hnd
        refine hnd.imp_of_mem fun {e f} he hf hef z => hef ?_
        obtain ⟨⟨e1, e2⟩, e3, e4⟩ := keyR B e he
        obtain ⟨⟨f1, f2⟩, f3, f4⟩ := keyR B f hf
        have h2 : e.1.2.toNat < rss2.length := by omega
        have h4 : f.1.2.toNat < rss2.length := by omega
        have hm : e.1.2.toNat = f.1.2.toNat := by
          have := congrArg (· % rss2.length) z
          simpa [Nat.mul_add_mod_of_lt, Nat.add_mod, Nat.mod_eq_of_lt h2, Nat.mod_eq_of_lt h4] using this
        have hq : e.1.1.toNat = f.1.1.toNat := by
          rw [hm] at z
          have z' : e.1.1.toNat * rss2.length = f.1.1.toNat * rss2.length := by omega
          exact Nat.eq_of_mul_eq_mul_right (by omega) z'
        exact Prod.ext (by omega) (by omega)
      · intro x hx
        obtain ⟨e, he, rfl⟩ := List.mem_map.mp hx
        obtain ⟨⟨e1, e2⟩, e3, e4⟩ := keyR B e he
        have h1 : e.1.1.toNat + 1 ≤ rss.length := by omega
        have h2 : e.1.2.toNat < rss2.length := by omega
        calc e.1.1.toNat * rss2.length + e.1.2.toNat < e.1.1.toNat * rss2.length + rss2.length := by omega
          _ = (e.1.1.toNat + 1) * rss2.length := by rw [Nat.succ_mul]
          _ ≤ rss.length * rss2.length := Nat.mul_le_mul_right _ h1
    refine ⟨fun m σ H' => ∃ (k : Nat) (L : List (PK × List Int)) (ts ws : List Addr) (k9 k10 k11 : Option V), m = rss.length * rss2.length - k ∧ k ≤ L.length ∧ BIG (stP rss rss2) (a, b) d k 0 L ∧ (∀ (i : Nat) (e : PK × List Int), i < k → L[i]? = some e → lampI ls e.1.1 = lampI ls2 e.1.2) ∧ PB H H' ra md L ts ws ∧
      σ = [some (.ref aw), some (.ref al), some (.int a), some (.ref ao), some (.ref ol), some (.int b), some (.ref ra), some (.ref md), some (.int (k : Int)), k9, k10, k11], ⟨_, 0, _, [t0], [w0], none, none, none, rfl, Nat.zero_le _, BIG.start _ _ _, (fun i e hi => absurd hi (Nat.not_lt_zero i)), B0, rfl⟩, ?_⟩
    rintro m σ H1 ⟨k, L, ts, ws, k9, k10, k11, rfl, hk, BG, eqs, B, rfl⟩
    have hlen := lenR BG
    repeat walk_at "sx"
    refine ⟨ra, _, rfl, .inl (SqL.of B.rows), ?_⟩
    rw [List.length_map, B.lt]
    repeat walk_at "sx"
    refine r_ite (fun hc => ?_) (fun hc => ?_)
    · have hc : k < L.length := by have := of_decide_eq_true hc; omega
      obtain ⟨e, he⟩ : ∃ e, L[k]? = some e := ⟨_, List.getElem?_eq_getElem hc⟩
      obtain ⟨tk, htk⟩ : ∃ tk, ts[k]? = some tk := ⟨_, List.getElem?_eq_getElem (by rw [B.lt]; exact hc)⟩
      obtain ⟨wk, hwk⟩ : ∃ wk, ws[k]? = some wk := ⟨_, List.getElem?_eq_getElem (by rw [B.lw]; exact hc)⟩
      have htk' : (ts.map V.ref)[k]? = some (.ref tk) := by rw [List.getElem?_map, htk]; rfl
      obtain ⟨⟨e1, e2⟩, e3, e4⟩ := keyR BG e (List.mem_of_getElem? he)
      have hel := BG.wlen k k e (Nat.le_refl _) he
      have gl1 : (ls.map V.bl)[e.1.1.toNat]? = some (.bl (lampI ls e.1.1)) := by
        have hlt : e.1.1.toNat < ls.length := by rw [PI.l1]; omega
        unfold lampI
        rw [List.getElem?_map, List.getElem?_eq_getElem hlt, List.getD_eq_getElem?_getD, List.getElem?_eq_getElem hlt]; rfl
      have gl2 : (ls2.map V.bl)[e.1.2.toNat]? = some (.bl (lampI ls2 e.1.2)) := by
        have hlt : e.1.2.toNat < ls2.length := by rw [PI.l2]; omega
        unfold lampI
        rw [List.getElem?_map, List.getElem?_eq_getElem hlt, List.getD_eq_getElem?_getD, List.getElem?_eq_getElem hlt]; rfl
      refine ⟨fun σ' H' => ∃ (L' : List (PK × List Int)) (ts ws : List Addr) (k9 k10 k11 : Option V), k + 1 ≤ L'.length ∧ BIG (stP rss rss2) (a, b) d (k + 1) 0 L' ∧ (∀ (i : Nat) (f : PK × List Int), i < k + 1 → L'[i]? = some f → lampI ls f.1.1 = lampI ls2 f.1.2) ∧ PB H H' ra md L' ts ws ∧
        σ' = [some (.ref aw), some (.ref al), some (.int a), some (.ref ao), some (.ref ol), some (.int b), some (.ref ra), some (.ref md), some (.int ((k : Int) + 1)), k9, k10, k11], fun σ' H' ⟨L', ts, ws, k9, k10, k11, h1, h2, h3, h4, es⟩ => ⟨rss.length * rss2.length - (k + 1), by omega, k + 1, L', ts, ws, k9, k10, k11, rfl, h1, h2, h3, h4, by rw [es]; simp⟩, ?_⟩
      repeat walk_at "sx"
      refine r_ixL (SqL.of B.rows) (atI_nat (j := k) htk') ?_
      repeat walk_at "sx"
      refine r_ixL (SqL.of (B.trip k tk wk e htk hwk he)) (atI_nat (j := 1) rfl) ?_
      repeat walk_at "sx"
      refine r_ixL (sqL_same B.same hL) (atI_get' e1 gl1) ?_
      repeat walk_at "sx"
      refine r_ixL (SqL.of B.rows) (atI_nat (j := k) htk') ?_
      repeat walk_at "sx"
      refine r_ixL (SqL.of (B.trip k tk wk e htk hwk he)) (atI_nat (j := 2) rfl) ?_
      repeat walk_at "sx"
      refine r_ixL (sqL_same B.same hL2) (atI_get' e3 gl2) ?_
      refine r_ne rfl ?_
      repeat walk_at "sx"
      refine r_ite (fun hne => ?_) (fun heq => ?_)
      · have hne : lampI ls e.1.1 ≠ lampI ls2 e.1.2 := by intro z; rw [z] at hne; simp at hne
        repeat walk_at "sx"
        refine r_ixL (SqL.of B.rows) (atI_nat (j := k) htk') ?_
        repeat walk_at "sx"
        refine r_ixL (SqL.of (B.trip k tk wk e htk hwk he)) (atI_nat (j := 0) rfl) ?_
        repeat walk_at "sx"
        obtain ⟨o1, o2⟩ := BG.ok e (List.mem_of_getElem? he)
        rw [walkP] at o2
        refine qs H1 wk e.2 B.same (B.word k wk e hwk he) (B.nw wk (List.mem_of_getElem? hwk)) ⟨o1, ?_, fun v okv hv => ?_⟩
        · rw [← o2] at hne; exact hne
        · obtain ⟨i, f, hi, hL', hf, _⟩ := BG.below e he v.length v (Nat.le_refl _) okv hv
          rw [walkP] at hf
          have := eqs i f hi hL'
          rw [hf] at this
          exact this
      · have heq : lampI ls e.1.1 = lampI ls2 e.1.2 := by simpa using heq
        repeat walk_at "sx"
        have h0 : 0 < rss.length := by have := PI.a0; have := PI.a1; omega
        obtain ⟨row0, hrow0⟩ : ∃ row0, rss[0]? = some row0 := ⟨_, List.getElem?_eq_getElem h0⟩
        obtain ⟨hrl0, _⟩ := hW1.row row0 (List.mem_of_getElem? hrow0)
        obtain ⟨r0, _, x2, x3⟩ := (M.same B.same).get hrow0
        refine r_ixL (SqL.of (B.same _ _ M.top)) (atI_nat (j := 0) x2) ?_
        repeat walk_at "sx"
        refine ⟨r0, _, rfl, .inl (SqL.of x3), ?_⟩
        rw [List.length_map]
        repeat walk_at "sx"
        refine ⟨_, rfl, by omega, by omega, ?_⟩
        refine for_range (fun j σ H' => ∃ (L' : List (PK × List Int)) (ts ws : List Addr) (k9 k10 k11 : Option V), BIG (stP rss rss2) (a, b) d k j L' ∧ (∀ i, i < L.length → L'[i]? = L[i]?) ∧ L.length ≤ L'.length ∧ PB H H' ra md L' ts ws ∧
          σ = [some (.ref aw), some (.ref al), some (.int a), some (.ref ao), some (.ref ol), some (.int b), some (.ref ra), some (.ref md), some (.int (k : Int)), k9, k10, k11]) ⟨L, ts, ws, k9, k10, k11, BG, fun _ _ => rfl, Nat.le_refl _, B, rfl⟩ (fun j σ H2 hj ⟨L', ts', ws', q9, q10, q11, BG', hpre, hle, B', hσ⟩ => ?_) (fun σ H2 ⟨L', ts', ws', q9, q10, q11, BG', hpre, hle, B', hσ⟩ => ?_)
        · subst hσ
          have hjd : (j : Int) < d := by omega
          have e0 : (0 : Int) + (j : Int) = (j : Int) := by omega
          rw [e0]
          have he' : L'[k]? = some e := by rw [hpre k hc]; exact he
          have hlen' := lenR BG'
          obtain ⟨tk', htk1⟩ : ∃ tk, ts'[k]? = some tk := ⟨_, List.getElem?_eq_getElem (by rw [B'.lt]; omega)⟩
          obtain ⟨wk', hwk1⟩ : ∃ wk, ws'[k]? = some wk := ⟨_, List.getElem?_eq_getElem (by rw [B'.lw]; omega)⟩
          have htk2 : (ts'.map V.ref)[k]? = some (.ref tk') := by rw [List.getElem?_map, htk1]; rfl
          obtain ⟨row1, hr1, hv1, _, _⟩ := step_in hW1 e1 e2 (x := (j : Int)) (by omega) hjd
          obtain ⟨row2, hr2, hv2, _, _⟩ := step_in hW2 e3 e4 (x := (j : Int)) (by omega) hjd
          obtain ⟨ra1, _, y2, y3⟩ := (M.same B'.same).get hr1
          obtain ⟨ra2, _, z2, z3⟩ := (M2.same B'.same).get hr2
          repeat walk_at "sx"
          refine r_ixL (SqL.of B'.rows) (atI_nat (j := k) htk2) ?_
          repeat walk_at "sx"
          refine r_ixL (SqL.of (B'.trip k tk' wk' e htk1 hwk1 he')) (atI_nat (j := 1) rfl) ?_
          repeat walk_at "sx"
          refine r_ixL (SqL.of (B'.same _ _ M.top)) (atI_get' e1 y2) ?_
          repeat walk_at "sx"
          refine r_ixL (SqL.of y3) (atI_get' (by omega) (int_map_get hv1)) ?_
          repeat walk_at "sx"
          refine r_ixL (SqL.of B'.rows) (atI_nat (j := k) htk2) ?_
          repeat walk_at "sx"
          refine r_ixL (SqL.of (B'.trip k tk' wk' e htk1 hwk1 he')) (atI_nat (j := 2) rfl) ?_
          repeat walk_at "sx"
          refine r_ixL (SqL.of (B'.same _ _ M2.top)) (atI_get' e3 z2) ?_
          repeat walk_at "sx"
          refine r_ixL (SqL.of z3) (atI_get' (by omega) (int_map_get hv2)) ?_
          repeat walk_at "sx"
          generalize hto : step rss e.1.1 (j : Int) = to
          generalize hgo : step rss2 e.1.2 (j : Int) = go
          have hst : (to, go) = stP rss rss2 e.1 (j : Int) := by rw [← hto, ← hgo]; rfl
          have BA := BG'.add he' hjd hst
          refine r_join (fun σ' H3 => ∃ ts ws, PB H H3 ra md (addDoorG L' e.2 j (to, go)) ts ws ∧ σ' = [some (.ref aw), some (.ref al), some (.int a), some (.ref ao), some (.ref ol), some (.int b), some (.ref ra), some (.ref md), some (.int (k : Int)), some (.int (j : Int)), some (.int to), some (.int go)]) ?_ (fun σ' H3 ⟨ts3, ws3, B3, es⟩ => ⟨_, ts3, ws3, _, _, _, BA, fun i hi => ?_, ?_, B3, es⟩)
          rotate_left
          · unfold addDoorG
            split
            · exact hpre i hi
            · rw [List.getElem?_append_left (by omega)]; exact hpre i hi
          · unfold addDoorG
            split
            · exact hle
            · simp; omega
          repeat walk_at "sx"
          refine ⟨by show 2 ≤ sizeLine; decide, fun tp1 htp1 => ?_⟩
          have B1 := B'.tick (Same.upd_new (o := .tup [.int to, .int go]) htp1)
          have tp1v : (upd H2 tp1 (.tup [.int to, .int go])) tp1 = some (.tup (([.inl to, .inl go] : List Key).map kV)) := upd_same
          generalize upd H2 tp1 (.tup [.int to, .int go]) = H3 at B1 tp1v ⊢
          repeat walk_at "sx"
          refine ⟨md, _, rfl, DGet.t B1.met tp1v, ?_⟩
          repeat walk_at "sx"
          refine r_ite (fun hin => ?_) (fun hin => ?_)
          · have hnk : hasKeyG L' (to, go) = false := by
              cases hz : hasKeyG L' (to, go) with
              | false => rfl
              | true => rw [metKV_some hz] at hin; cases hin
            repeat walk_at "sx"
            refine ⟨by show 2 ≤ sizeLine; decide, fun tp2 htp2 => ?_⟩
            have B2 := B1.tick (Same.upd_new (o := .tup [.int to, .int go]) htp2)
            have tp2v : (upd H3 tp2 (.tup [.int to, .int go])) tp2 = some (.tup (([.inl to, .inl go] : List Key).map kV)) := upd_same
            generalize upd H3 tp2 (.tup [.int to, .int go]) = H4 at B2 tp2v ⊢
            refine ⟨md, _, rfl, DPut.t B2.met tp2v (by unfold metKV; rw [List.length_map]; exact Nat.lt_of_le_of_lt (show _ ≤ 100000 by omega) (by decide)), ?_⟩
            rw [putK_new _ (metKV_none hnk)]
            have rows5 : (upd H4 md (.dT (metKV L' ++ [([.inl to, .inl go], .bl true)]))) ra = some (.lst (ts'.map V.ref)) := by rw [upd_ne B2.ne]; exact B2.rows
            have trip5 : (upd H4 md (.dT (metKV L' ++ [([.inl to, .inl go], .bl true)]))) tk' = some (.lst [.ref wk', .int e.1.1, .int e.1.2]) := by rw [upd_ne (B2.out tk' (List.mem_append_left _ (List.mem_of_getElem? htk1))).2]; exact B2.trip k tk' wk' e htk1 hwk1 he'
            have word5 : (upd H4 md (.dT (metKV L' ++ [([.inl to, .inl go], .bl true)]))) wk' = some (.lst (e.2.map V.int)) := by rw [upd_ne (B2.out wk' (List.mem_append_right _ (List.mem_of_getElem? hwk1))).2]; exact B2.word k wk' e hwk1 he'
            have addB := fun H9 p2 t2 => PB.add (H3 := H9) (p2 := p2) (t2 := t2) (e := ((to, go), e.2 ++ [(j : Int)])) B2
            generalize upd H4 md (.dT (metKV L' ++ [([.inl to, .inl go], .bl true)])) = H5 at rows5 trip5 word5 addB ⊢
            repeat walk_at "sx"
            refine ⟨.inl ⟨rfl, _, SqL.of rows5⟩, ?_⟩
            repeat walk_at "sx"
            refine r_ixL (SqL.of rows5) (atI_nat (j := k) htk2) ?_
            repeat walk_at "sx"
            refine r_ixL (SqL.of trip5) (atI_nat (j := 0) rfl) ?_
            repeat walk_at "sx"
            refine ⟨by show 1 ≤ sizeLine; decide, fun p1 hp1 => ?_⟩
            have s1 := Same.upd_new (o := .lst [.int (j : Int)]) hp1
            refine ⟨wk', p1, _, _, rfl, rfl, s1 _ _ word5, upd_same, (by rw [List.length_map]; show e.2.length + 1 ≤ sizeLine; exact Nat.le_trans (show _ ≤ 200000 by omega) (by decide)), fun p2 hp2 => ?_⟩
            have s2 := s1.trans (Same.upd_new (o := .lst (e.2.map V.int ++ [.int (j : Int)])) hp2)
            have hp2' := s1.free hp2
            have hp2v : (upd (upd H5 p1 (.lst [.int (j : Int)])) p2 (.lst (e.2.map V.int ++ [.int (j : Int)]))) p2 = some (.lst ((e.2 ++ [(j : Int)]).map V.int)) := by rw [upd_same]; simp
            generalize upd (upd H5 p1 (.lst [.int (j : Int)])) p2 (.lst (e.2.map V.int ++ [.int (j : Int)])) = H6 at s2 hp2v ⊢
            repeat walk_at "sx"
            refine ⟨by show 3 ≤ sizeLine; decide, fun t2 ht2 => ?_⟩
            have s3 := s2.trans (Same.upd_new (o := .lst [.ref p2, .int to, .int go]) ht2)
            have ht2' := s2.free ht2
            repeat walk_at "sx"
            refine ⟨ra, _, _, rfl, rfl, s3 _ _ rows5, (by rw [List.length_map, B2.lt]; exact Nat.lt_of_le_of_lt (show _ ≤ 100000 by omega) (by decide)), ?_⟩
            refine ⟨ts' ++ [t2], ws' ++ [p2], ?_, rfl⟩
            unfold addDoorG
            rw [if_neg (by rw [hnk]; decide)]
            exact addB _ p2 t2 s3 hp2' ht2' (by rw [upd_ne (ne_of_none hp2v ht2)]; exact hp2v) upd_same
          · have hyk : hasKeyG L' (to, go) = true := by
              cases hz : hasKeyG L' (to, go) with
              | true => rfl
              | false => rw [metKV_none hz] at hin; cases hin
            repeat walk_at "sx"
            refine ⟨ts', ws', ?_, rfl⟩
            unfold addDoorG
            rw [if_pos hyk]
            exact B1
        · subst hσ
          repeat walk_at "sx"
          have hjd : ((row0.length : Nat) : Int).toNat = d.toNat := by omega
          rw [hjd] at BG'
          refine ⟨L', ts', ws', _, _, _, by omega, BG'.next, fun i f hi hf => ?_, B', rfl⟩
          rw [hpre i (by omega)] at hf
          rcases Nat.lt_or_ge i k with h | h
          · exact eqs i f h hf
          · have : i = k := by omega
            subst this
            rw [he] at hf; cases hf; exact heq
    · have hc : ¬ ((k : Int) < (L.length : Int)) := of_decide_eq_false hc
      have hkl : k = L.length := by omega
      subst hkl
      repeat walk_at "sx"
      refine qn H1 B.same fun w ok => ?_
      obtain ⟨f, hf, hk, _⟩ := BG.all w.length w (Nat.le_refl _) ok
      rw [walkP] at hk
      obtain ⟨i, hi⟩ := List.getElem?_of_mem hf
      have := eqs i f (List.getElem?_eq_some_iff.mp hi).1 hi
      rw [hk] at this
      exact this
/-! #### l_stands_under -/
theorem sc_l_stands_under : FnScope ["e"] ["e"] (defScope s_l_stands_under) := ⟨rfl, rfl, rfl, by decide +kernel, rfl, by decide +kernel, by decide +kernel⟩
theorem b_l_stands_under (T : Txt K mg t) : Binds K t.fd_l_stands_under ["e"] [] := T.F_l_stands_under.binds fun _ _ _ _ _ _ us hl => match us, hl with | [_], _ => rfl
def sp_l_stands_under (K : PySem.W.Frag) (CH : Addr) : Sp := fun vs H Q _ => ∃ (ea C : Addr) (x : Str), vs = [.ref ea] ∧ H ea = some (.ext (ExcAt ea C)) ∧ ExcK K x C ∧ PySem.W.kitOne K (.ref C) (.ref CH) = some true ∧ PySem.W.kitOne K (.ref C) (.type "ValueError") = some true ∧ Q (.bl true) H
theorem ok_l_stands_under (T : Txt K mg t) : FnOkH P w K mg base CX0 1 t.f_l_stands_under t.fd_l_stands_under ["e"] (sp_l_stands_under K t.C_HouseError) := by
  refine T.F_l_stands_under.okH sc_l_stands_under (fun vs H Q E h => ?_) (fun cdv A outer s H vs Q E hr h => ?_)
  · obtain ⟨ea, C, x, rfl, _⟩ := h
    rfl
  · obtain ⟨ea, C, x, rfl, he, O, k1, k2, q⟩ := h
    refine ⟨_, pss_one (ps_ret (pe_and (pe_callB (call_isinstX K) rfl T.m_isinstance boot_isinstance (pa_cons (pv 0) (pa_cons (pe_glob (v := .ref _) rfl T.mg_HouseError rfl) (pa_nil)))) (pe_one (pe_callB (call_isinstX K) rfl T.m_isinstance boot_isinstance (pa_cons (pv 0) (pa_cons (pe_bltn (v := .ty "ValueError") (u := .type "ValueError") rfl T.m_ValueError (by decide +kernel) rfl) (pa_nil))))))), ?_⟩
    repeat walk_at "sx"
    refine ⟨ea, C, x, _, _, true, rfl, he, O, rfl, k1, ?_⟩
    repeat walk_at "sx"
    refine r_iteP rfl ?_
    repeat walk_at "sx"
    exact ⟨ea, C, x, _, _, true, rfl, he, O, rfl, k2, q⟩
/-! #### l_refused -/
theorem sc_l_refused : FnScope ["house", "one", "other", "name", "under", "e"] ["house", "one", "other"] (defScope s_l_refused) := ⟨rfl, rfl, rfl, by decide +kernel, rfl, by decide +kernel, by decide +kernel⟩
theorem b_l_refused (T : Txt K mg t) : Binds K t.fd_l_refused ["house", "one", "other"] [] := T.F_l_refused.binds fun _ _ _ _ _ _ us hl => match us, hl with | [_, _, _], _ => rfl
def sp_l_refused (K : PySem.W.Frag) (C : Addr) : Sp := fun vs H Q _ => ∃ (p : Addr) (d : Int) (aw : Addr) (rs : List Addr) (rss : List (List Int)) (al : Addr) (ls : List Bool) (a b : Int), vs = [.ref p, .int a, .int b] ∧ HouseAt C H p d aw rs rss al ls ∧ Valid d rss ls ∧ -1000000 ≤ a ∧ a ≤ 1000000 ∧ -1000000 ≤ b ∧ b ≤ 1000000 ∧ ¬ (0 ≤ a ∧ a < rss.length ∧ 0 ≤ b ∧ b < rss.length) ∧ ∀ H', Same H H' → Q (.bl true) H'
theorem ok_l_refused (T : Txt K mg t) : FnOk P w K mg base CX0 6 t.f_l_refused t.fd_l_refused ["house", "one", "other"] (sp_l_refused K t.C_House) := by
  refine T.F_l_refused.ok sc_l_refused (fun vs H Q E h => ?_) (fun cdv A outer s H vs Q E hr h => ?_)
  · obtain ⟨p, d, aw, rs, rss, al, ls, a, b, rfl, _⟩ := h
    rfl
  · obtain ⟨p, d, aw, rs, rss, al, ls, a, b, rfl, hh, Vd, a0, a1, b0, b1, no, q⟩ := h
    refine ⟨_, pss_cons (ps_set (i := 3) sc_l_refused.nd rfl (Or.inl rfl) (pe_str))
 (pss_cons (ps_set (i := 4) sc_l_refused.nd rfl (Or.inl rfl) (pe_bl))
 (pss_cons (ps_try (i := 5) rfl rfl rfl T.mg_NoRoom T.ex_NoRoom sc_l_refused.nd rfl rfl (fun _ _ _ xp => pss_one (ps_expr (pe_call (ok_apart T) (hr.mono (by decide)) rfl T.mg_apart T.F_apart.kp (b_apart T) .nil xp.pass (pa_cons (pv 0) (pa_cons (pv 1) (pa_cons (pv 2) (pa_nil)))))))
 (fun _ _ => pss_cons (ps_set (i := 3) sc_l_refused.nd rfl (Or.inl rfl) (pe_str))
 (pss_one (ps_set (i := 4) sc_l_refused.nd rfl (Or.inl rfl) (pe_and (pe_callH (ok_l_stands_under T) (roomH hr (by decide)) rfl T.mg_l_stands_under T.F_l_stands_under.kp (b_l_stands_under T) .nil pass0 (pa_cons (pv 5) (pa_nil))) (pe_one (pe_not (pe_callB (call_isinstXT K) rfl T.m_isinstance boot_isinstance (pa_cons (pv 5) (pa_cons (pe_tup (pa_cons (pe_glob (v := .ref _) rfl T.mg_BadHouse rfl) (pa_cons (pe_glob (v := .ref _) rfl T.mg_BadWord rfl) (pa_nil)))) (pa_nil)))))))))))
 (pss_one (ps_ret (pe_and (pe_cmpR op_eq (pv 3) (pe_str) (nomark _)) (pe_one (pv 4))))))), ?_⟩
    repeat walk_at "sx"
    refine ⟨p, d, aw, rs, rss, al, ls, a, b, rfl, hh, Vd, a0, a1, b0, b1, fun z => absurd z no, fun _ => ⟨rfl, fun ea hea => ?_⟩⟩
    have hs0 : Same H (upd H ea (.ext (ExcAt ea t.C_NoRoom))) := Same.upd_new hea
    have he1 : (upd H ea (.ext (ExcAt ea t.C_NoRoom))) ea = some (.ext (ExcAt ea t.C_NoRoom)) := upd_same
    generalize upd H ea (.ext (ExcAt ea t.C_NoRoom)) = H1 at hs0 he1 ⊢
    repeat walk_at "sx"
    refine ⟨ea, _, _, rfl, he1, T.ex_NoRoom, kit_sub (Ne.symm (ne_mro T.ms_HouseError T.mr_HouseError_NoRoom)) T.cl_HouseError T.ty_HouseError T.mr_NoRoom_HouseError, kit_val T.mv_NoRoom, ?_⟩
    repeat walk_at "sx"
    refine r_iteP rfl ?_
    repeat walk_at "sx"
    refine ⟨by show 2 ≤ sizeLine; decide, fun tp htp => ?_⟩
    have hs2 : Same H1 (upd H1 tp (.tup [.ref t.C_BadHouse, .ref t.C_BadWord])) := Same.upd_new htp
    refine ⟨ea, _, _, tp, [t.C_BadHouse, t.C_BadWord], false, rfl, hs2 _ _ he1, T.ex_NoRoom, upd_same, ?_, ?_⟩
    · have n1 := kit_sub (ne_mro T.ms_NoRoom T.mr_NoRoom_BadHouse) T.cl_BadHouse T.ty_BadHouse T.mr_NoRoom_BadHouse
      have n2 := kit_sub (ne_mro T.ms_NoRoom T.mr_NoRoom_BadWord) T.cl_BadWord T.ty_BadWord T.mr_NoRoom_BadWord
      show PySem.W.kitAny K _ [.ref _, .ref _] = _
      simp only [PySem.W.kitAny, n1, n2]
    generalize upd H1 tp (.tup [.ref t.C_BadHouse, .ref t.C_BadWord]) = H2 at hs2 ⊢
    repeat walk_at "sx"
    refine r_eq rfl ?_
    repeat walk_at "sx"
    refine r_iteP (by simp) ?_
    repeat walk_at "sx"
    exact q _ (hs0.trans hs2)
/-! #### law -/
theorem sc_law : FnScope ["script", "doors", "rooms", "ways", "lamps", "house", "one", "other", "far", "odd", "place", "due", "turn", "found"] ["script"] (defScope s_law) := ⟨rfl, rfl, rfl, by decide +kernel, rfl, by decide +kernel, by decide +kernel⟩
def sp_law (K : PySem.W.Frag) : Sp := fun vs H Q _ => ∃ (a : Addr) (ns : List Int), vs = [.ref a] ∧ SqL K H a (ns.map V.int) ∧ ns.length ≤ 63 ∧ ∀ H', Q (.bl true) H'
theorem ways_map {d r : Int} (f : Nat → List Int) (n : Nat) (hn : n = r.toNat) (hr : 0 < r) (h : ∀ k, k < n → ((f k).length : Int) = d ∧ ∀ x ∈ f k, 0 ≤ x ∧ x < r) : Ways d ((List.range n).map f) := by
  refine ⟨fun row hrow => ?_⟩
  obtain ⟨k, hk, rfl⟩ := List.mem_map.mp hrow
  have hk : k < n := List.mem_range.mp hk
  obtain ⟨h1, h2⟩ := h k hk
  refine ⟨h1, fun x hx => ?_⟩
  have := h2 x hx
  rw [List.length_map, List.length_range]
  omega
theorem ok_law (T : Txt K mg t) : FnOk P w K mg base CX0 7 t.f_law t.fd_law ["script"] (sp_law K) := by
  refine T.F_law.ok sc_law (fun vs H Q E h => ?_) (fun cdv A outer s H vs Q E hr h => ?_)
  · obtain ⟨a, ns, rfl, _⟩ := h
    rfl
  · obtain ⟨a, ns, rfl, hS, hlen, q⟩ := h
    refine ⟨_, pss_cons (ps_set (i := 1) sc_law.nd rfl (Or.inl rfl) (pe_op op_add (pe_int) (pe_op op_mod (pe_call (ok_l_cell_at T) (hr.mono (by decide)) rfl T.mg_l_cell_at T.F_l_cell_at.kp (b_l_cell_at T) .nil pass0 (pa_cons (pv 0) (pa_cons (pe_int) (pa_nil)))) (pe_int))))
 (pss_cons (ps_set (i := 2) sc_law.nd rfl (Or.inr rfl) (pe_op op_add (pe_int) (pe_op op_mod (pe_call (ok_l_cell_at T) (hr.mono (by decide)) rfl T.mg_l_cell_at T.F_l_cell_at.kp (b_l_cell_at T) .nil pass0 (pa_cons (pv 0) (pa_cons (pe_int) (pa_nil)))) (pe_int))))
 (pss_cons (ps_set (i := 3) sc_law.nd rfl (Or.inr rfl) (pe_call (ok_l_ways_by T) (hr.mono (by decide)) rfl T.mg_l_ways_by T.F_l_ways_by.kp (b_l_ways_by T) .nil pass0 (pa_cons (pe_call (ok_l_cell_at T) (hr.mono (by decide)) rfl T.mg_l_cell_at T.F_l_cell_at.kp (b_l_cell_at T) .nil pass0 (pa_cons (pv 0) (pa_cons (pe_int) (pa_nil)))) (pa_cons (pv 1) (pa_cons (pv 2) (pa_nil))))))
 (pss_cons (ps_set (i := 4) sc_law.nd rfl (Or.inl rfl) (pe_call (ok_l_lamps_by T) (hr.mono (by decide)) rfl T.mg_l_lamps_by T.F_l_lamps_by.kp (b_l_lamps_by T) .nil pass0 (pa_cons (pe_call (ok_l_cell_at T) (hr.mono (by decide)) rfl T.mg_l_cell_at T.F_l_cell_at.kp (b_l_cell_at T) .nil pass0 (pa_cons (pv 0) (pa_cons (pe_int) (pa_nil)))) (pa_cons (pv 2) (pa_nil)))))
 (pss_cons (ps_join (ps_if (pt_cmpR op_eq (pe_op op_mod (pe_call (ok_l_cell_at T) (hr.mono (by decide)) rfl T.mg_l_cell_at T.F_l_cell_at.kp (b_l_cell_at T) .nil pass0 (pa_cons (pv 0) (pa_cons (pe_int) (pa_nil)))) (pe_int)) (pe_int) (nomark _))
 (pss_cons (ps_set (i := 3) sc_law.nd rfl (Or.inr rfl) (pe_compC (N := ["script", "doors", "rooms", "ways", "lamps", "house", "one", "other", "far", "odd", "place", "due", "turn", "found"]) (sc0 := (defScope s_law)) (N' := ["k", "rooms", "ways"]) (caps := [none, some 2, some 3]) (by exact ⟨rfl, by decide +kernel, by decide +kernel, by decide +kernel, by decide +kernel, rfl, rfl, by decide +kernel⟩) rfl (pi_range1 rfl T.m_range (pa_cons (pv 2) (pa_nil))) (fun _ _ _ _ _ _ => pg_name (i := 0) (show List.Nodup (["k", "rooms", "ways"] : List Str) from by decide +kernel) rfl (Or.inr rfl)) (fun _ _ _ _ _ _ => pe_comp (N := ["k", "rooms", "ways"]) (sc0 := (relS (scE (defScope s_law) (valS (nthS (thenS (nthS (defBody s_law) 4)) 0))) (defScope s_law))) (N' := ["to", "k", "rooms"]) (caps := [none, some 0, some 1]) (by exact ⟨rfl, by decide +kernel, by decide +kernel, by decide +kernel, rfl, rfl, by decide +kernel⟩) rfl (pi_listK K (pe_ix (ix_listK K) (pv 2) (pv 0) (fun _ _ => rfl))) (fun _ _ _ _ _ _ => pg_name (i := 0) (show List.Nodup (["to", "k", "rooms"] : List Str) from by decide +kernel) rfl (Or.inl rfl)) (fun _ _ _ _ _ _ => pe_op op_mod (pe_op op_add (pv 1) (pe_op op_mod (pv 0) (pe_int))) (pv 2)))))
 (pss_one (ps_setC (i := 4) (N := ["script", "doors", "rooms", "ways", "lamps", "house", "one", "other", "far", "odd", "place", "due", "turn", "found"]) (sc0 := (defScope s_law)) (N' := ["k", "rooms", "script"]) (caps := [none, some 2, some 0]) (by exact ⟨rfl, by decide +kernel, by decide +kernel, by decide +kernel, rfl, rfl, by decide +kernel⟩) rfl sc_law.nd rfl (Or.inl rfl) (pi_range1 rfl T.m_range (pa_cons (pv 2) (pa_nil))) (fun _ _ _ _ _ _ => pg_name (i := 0) (show List.Nodup (["k", "rooms", "script"] : List Str) from by decide +kernel) rfl (Or.inl rfl)) (fun _ _ _ _ _ _ => pe_cmpR op_eq (pv 0) (pe_op op_mod (pe_call (ok_l_cell_at T) (hr.mono (by decide)) rfl T.mg_l_cell_at T.F_l_cell_at.kp (b_l_cell_at T) .nil pass0 (pa_cons (pv 2) (pa_cons (pe_int) (pa_nil)))) (pv 1)) (nomark _)))))
 (pss_nil)))
 (pss_cons (ps_join (ps_if (pt_cmpR op_eq (pe_op op_mod (pe_op op_fdiv (pe_call (ok_l_cell_at T) (hr.mono (by decide)) rfl T.mg_l_cell_at T.F_l_cell_at.kp (b_l_cell_at T) .nil pass0 (pa_cons (pv 0) (pa_cons (pe_int) (pa_nil)))) (pe_int)) (pe_int)) (pe_int) (nomark _))
 (pss_cons (ps_set (i := 1) sc_law.nd rfl (Or.inl rfl) (pe_int))
 (pss_cons (ps_set (i := 2) sc_law.nd rfl (Or.inr rfl) (pe_op op_add (pe_int) (pe_op op_mod (pe_op op_fdiv (pe_call (ok_l_cell_at T) (hr.mono (by decide)) rfl T.mg_l_cell_at T.F_l_cell_at.kp (b_l_cell_at T) .nil pass0 (pa_cons (pv 0) (pa_cons (pe_int) (pa_nil)))) (pe_int)) (pe_int))))
 (pss_cons (ps_set (i := 3) sc_law.nd rfl (Or.inr rfl) (pe_comp (N := ["script", "doors", "rooms", "ways", "lamps", "house", "one", "other", "far", "odd", "place", "due", "turn", "found"]) (sc0 := (defScope s_law)) (N' := ["k", "rooms"]) (caps := [none, some 2]) (by exact ⟨rfl, by decide +kernel, by decide +kernel, by decide +kernel, rfl, rfl, by decide +kernel⟩) rfl (pi_range1 rfl T.m_range (pa_cons (pv 2) (pa_nil))) (fun _ _ _ _ _ _ => pg_name (i := 0) (show List.Nodup (["k", "rooms"] : List Str) from by decide +kernel) rfl (Or.inl rfl)) (fun _ _ _ _ _ _ => pe_lst (pa_cons (pe_callB (call_min2 rfl) rfl T.m_min boot_min (pa_cons (pe_op op_add (pv 0) (pe_int)) (pa_cons (pe_op op_sub (pv 1) (pe_int)) (pa_nil)))) (pa_nil)))))
 (pss_one (ps_setC (i := 4) (N := ["script", "doors", "rooms", "ways", "lamps", "house", "one", "other", "far", "odd", "place", "due", "turn", "found"]) (sc0 := (defScope s_law)) (N' := ["k", "rooms"]) (caps := [none, some 2]) (by exact ⟨rfl, by decide +kernel, by decide +kernel, by decide +kernel, rfl, rfl, by decide +kernel⟩) rfl sc_law.nd rfl (Or.inl rfl) (pi_range1 rfl T.m_range (pa_cons (pv 2) (pa_nil))) (fun _ _ _ _ _ _ => pg_name (i := 0) (show List.Nodup (["k", "rooms"] : List Str) from by decide +kernel) rfl (Or.inl rfl)) (fun _ _ _ _ _ _ => pe_cmpR op_eq (pv 0) (pe_op op_sub (pv 1) (pe_int)) (nomark _)))))))
 (pss_nil)))
 (pss_cons (ps_set (i := 5) sc_law.nd rfl (Or.inl rfl) (pe_make T.mk_House (ok_House_init T) (hr.mono (by decide)) rfl T.mg_House (b_House_init T) .nil pass0 (pa_cons (pv 1) (pa_cons (pv 3) (pa_cons (pv 4) (pa_nil))))))
 (pss_cons (ps_set (i := 6) sc_law.nd rfl (Or.inl rfl) (pe_op op_mod (pe_call (ok_l_cell_at T) (hr.mono (by decide)) rfl T.mg_l_cell_at T.F_l_cell_at.kp (b_l_cell_at T) .nil pass0 (pa_cons (pv 0) (pa_cons (pe_int) (pa_nil)))) (pv 2)))
 (pss_cons (ps_set (i := 7) sc_law.nd rfl (Or.inl rfl) (pe_op op_mod (pe_call (ok_l_cell_at T) (hr.mono (by decide)) rfl T.mg_l_cell_at T.F_l_cell_at.kp (b_l_cell_at T) .nil pass0 (pa_cons (pv 0) (pa_cons (pe_int) (pa_nil)))) (pv 2)))
 (pss_cons (ps_if (pt_cmpR op_eq (pe_op op_mod (pe_call (ok_l_cell_at T) (hr.mono (by decide)) rfl T.mg_l_cell_at T.F_l_cell_at.kp (b_l_cell_at T) .nil pass0 (pa_cons (pv 0) (pa_cons (pe_int) (pa_nil)))) (pe_int)) (pe_int) (nomark _))
 (pss_cons (ps_set (i := 8) sc_law.nd rfl (Or.inl rfl) (pe_op op_mul (pe_op op_mod (pe_call (ok_l_cell_at T) (hr.mono (by decide)) rfl T.mg_l_cell_at T.F_l_cell_at.kp (b_l_cell_at T) .nil pass0 (pa_cons (pv 0) (pa_cons (pe_int) (pa_nil)))) (pe_int)) (pe_op op_mod (pe_call (ok_l_cell_at T) (hr.mono (by decide)) rfl T.mg_l_cell_at T.F_l_cell_at.kp (b_l_cell_at T) .nil pass0 (pa_cons (pv 0) (pa_cons (pe_int) (pa_nil)))) (pe_int))))
 (pss_cons (ps_set (i := 9) sc_law.nd rfl (Or.inl rfl) (pe_ix (ix_listK K) (pe_lst (pa_cons (pe_op op_sub (pe_op op_sub (pe_int) (pe_int)) (pv 8)) (pa_cons (pe_op op_add (pv 2) (pv 8)) (pa_nil)))) (pe_op op_mod (pe_call (ok_l_cell_at T) (hr.mono (by decide)) rfl T.mg_l_cell_at T.F_l_cell_at.kp (b_l_cell_at T) .nil pass0 (pa_cons (pv 0) (pa_cons (pe_int) (pa_nil)))) (pe_int)) (fun _ _ => rfl)))
 (pss_cons (ps_set (i := 10) sc_law.nd rfl (Or.inl rfl) (pe_op op_mod (pe_call (ok_l_cell_at T) (hr.mono (by decide)) rfl T.mg_l_cell_at T.F_l_cell_at.kp (b_l_cell_at T) .nil pass0 (pa_cons (pv 0) (pa_cons (pe_int) (pa_nil)))) (pe_int)))
 (pss_one (ps_ret (pe_call (ok_l_refused T) (hr.mono (by decide)) rfl T.mg_l_refused T.F_l_refused.kp (b_l_refused T) .nil pass0 (pa_cons (pv 5) (pa_cons (pe_ix (ix_listK K) (pe_lst (pa_cons (pv 9) (pa_cons (pv 6) (pa_cons (pv 9) (pa_nil))))) (pv 10) (fun _ _ => rfl)) (pa_cons (pe_ix (ix_listK K) (pe_lst (pa_cons (pv 7) (pa_cons (pv 9) (pa_cons (pv 9) (pa_nil))))) (pv 10) (fun _ _ => rfl)) (pa_nil))))))))))
 (pss_nil))
 (pss_cons (ps_set (i := 11) sc_law.nd rfl (Or.inl rfl) (pe_call (ok_l_part T) (hr.mono (by decide)) rfl T.mg_l_part T.F_l_part.kp (b_l_part T) .nil pass0 (pa_cons (pv 3) (pa_cons (pv 4) (pa_cons (pv 6) (pa_cons (pv 3) (pa_cons (pv 4) (pa_cons (pv 7) (pa_nil)))))))))
 (pss_cons (ps_for PassesOwn.never rfl (pi_range1 rfl T.m_range (pa_cons (pe_int) (pa_nil))) (pg_name (i := 12) sc_law.nd rfl (Or.inl rfl))
 (pss_cons (ps_set (i := 13) sc_law.nd rfl (Or.inl rfl) (pe_call (ok_apart T) (hr.mono (by decide)) rfl T.mg_apart T.F_apart.kp (b_apart T) .nil pass0X (pa_cons (pv 5) (pa_cons (pv 6) (pa_cons (pv 7) (pa_nil))))))
 (pss_cons (ps_if (PW.pt (pw_and (pt_cmpR op_isN (pv 11) (pe_non) (nomark _)) (pw_and1 (pt_cmpR op_notN (pv 13) (pe_non) (nomark _)))))
 (pss_one (ps_ret (pe_bl)))
 (pss_nil))
 (pss_one (ps_join (ps_if (pt_cmpR op_notN (pv 11) (pe_non) (nomark _))
 (pss_cons (ps_if (PW.pt (pw_or (pt_not (pt_val (pe_call (ok_l_is_word T) (hr.mono (by decide)) rfl T.mg_l_is_word T.F_l_is_word.kp (b_l_is_word T) .nil pass0 (pa_cons (pv 13) (pa_cons (pv 1) (pa_nil)))))) (pw_or1 (pt_cmpR (op_neIK K hr.units) (pv 13) (pv 11) (nomark _)))))
 (pss_one (ps_ret (pe_bl)))
 (pss_nil))
 (pss_cons (ps_if (pt_cmpR op_eq (pe_ix (ix_listK K) (pv 4) (pe_call (ok_l_walk T) (hr.mono (by decide)) rfl T.mg_l_walk T.F_l_walk.kp (b_l_walk T) .nil pass0 (pa_cons (pv 3) (pa_cons (pv 6) (pa_cons (pv 13) (pa_nil))))) (fun _ _ => rfl)) (pe_ix (ix_listK K) (pv 4) (pe_call (ok_l_walk T) (hr.mono (by decide)) rfl T.mg_l_walk T.F_l_walk.kp (b_l_walk T) .nil pass0 (pa_cons (pv 3) (pa_cons (pv 7) (pa_cons (pv 13) (pa_nil))))) (fun _ _ => rfl)) (nomark _))
 (pss_one (ps_ret (pe_bl)))
 (pss_nil))
 (pss_one (ps_expr (pe_bmK K PySem.F.plainAttrs_list PySem.F.slot_list_append PySem.F.type_list_append mt_append (pv 13) (pa_cons (pv 12) (pa_nil)))))))
 (pss_nil)))))))
 (pss_one (ps_ret (pe_bl)))))))))))))), ?_⟩
    repeat walk_at "sx"
    refine ⟨a, ns, 0, rfl, hS, by decide, ?_⟩
    repeat walk_at "sx"
    refine ⟨a, ns, 1, rfl, hS, by decide, ?_⟩
    repeat walk_at "sx"
    obtain ⟨d, hd⟩ : ∃ d, d = 1 + cellv ns 0 % 6 := ⟨_, rfl⟩
    have hd1 : 1 ≤ d := by omega
    have hd6 : d ≤ 6 := by omega
    rw [← hd]
    clear hd
    obtain ⟨r, hr⟩ : ∃ r, r = 1 + cellv ns 1 % 8 := ⟨_, rfl⟩
    have hr1 : 1 ≤ r := by omega
    have hr8 : r ≤ 8 := by omega
    rw [← hr]
    clear hr
    refine ⟨a, ns, 2, rfl, hS, by decide, ?_⟩
    repeat walk_at "sx"
    refine ⟨_, d, r, rfl, by omega, by omega, by omega, by omega, fun aw rs H1 hs1 M1 new1 => ?_⟩
    repeat walk_at "sx"
    have hW1 : Ways d (waysBy (cellv ns 2) d r) := waysBy_ok _ (by omega) (by omega)
    have hl1 : (waysBy (cellv ns 2) d r).length = r.toNat := waysBy_len _ _ _
    generalize waysBy (cellv ns 2) d r = rss at M1 hW1 hl1 ⊢
    have hrp : (0 : Int) < r := by omega
    refine ⟨a, ns, 3, rfl, sqL_same hs1 hS, by decide, ?_⟩
    repeat walk_at "sx"
    refine ⟨_, r, rfl, by omega, by omega, fun al hal => ?_⟩
    repeat walk_at "sx"
    have hs2 : Same H1 (upd H1 al (.lst ((lampsBy (cellv ns 3) r).map V.bl))) := Same.upd_new hal
    have al2 : (upd H1 al (.lst ((lampsBy (cellv ns 3) r).map V.bl))) al = some (.lst ((lampsBy (cellv ns 3) r).map V.bl)) := upd_same
    have hLl : (lampsBy (cellv ns 3) r).length = r.toNat := lampsBy_len _ _
    generalize upd H1 al (.lst ((lampsBy (cellv ns 3) r).map V.bl)) = H2 at hs2 al2 ⊢
    generalize lampsBy (cellv ns 3) r = ls at al2 hLl ⊢
    have M2 := M1.same hs2
    have s2 : Same H H2 := hs1.trans hs2
    clear M1 hs1 hs2 new1 hal
    -- ways that lead at most two rooms on, one lit room alone
    refine r_join (fun σ' H' => Same H H' ∧ ∃ (aw : Addr) (rs : List Addr) (rss : List (List Int)) (al : Addr) (ls : List Bool), Mat H' aw rs rss ∧ Ways d rss ∧ rss.length = r.toNat ∧ H' al = some (.lst (ls.map V.bl)) ∧ ls.length = r.toNat ∧ σ' = [some (.ref a), some (.int d), some (.int r), some (.ref aw), some (.ref al), none, none, none, none, none, none, none, none, none]) ?_ ?_
    · repeat walk_at "sx"
      refine ⟨a, ns, 4, rfl, sqL_same s2 hS, by decide, ?_⟩
      repeat walk_at "sx"
      refine r_eq rfl ?_
      repeat walk_at "sx"
      refine r_ite (fun hc => ?_) (fun hc => ?_)
      · repeat walk_at "sx"
        refine ⟨_, rfl, by omega, by omega, ?_⟩
        refine comp_range (fun acc i ys H' => ∃ rs', ys = rs'.map V.ref ∧ rs'.length = i ∧ Grown H2 H' acc rs' (fun k => (rss.getD k []).map fun to => ((k : Int) + to % 3) % r)) (fun acc hacc => ⟨[], rfl, rfl, Grown.start hacc⟩) (fun acc i ys H' hacc hi p => ?_) (fun acc ys H' hacc p => ?_)
        · obtain ⟨rs', rfl, hlen', G⟩ := p
          have hi' : i < rss.length := by omega
          have hei := List.getElem?_eq_getElem hi'
          obtain ⟨r', _, z2, z3⟩ := (M2.same G.same).get hei
          have egd : rss.getD i [] = rss[i] := by rw [List.getD_eq_getElem?_getD, hei, Option.getD_some]
          have e0 : (0 : Int) + (i : Int) = (i : Int) := by omega
          rw [e0]
          repeat walk_at "sx"
          refine ⟨Wk.set rfl, ?_⟩
          repeat walk_at "sx"
          refine r_ixL (SqL.of (G.same _ _ M2.top)) (atI_nat (j := i) z2) ?_
          repeat walk_at "sx"
          refine ⟨r', rfl, ⟨_, SqL.of z3⟩, ?_⟩
          refine comp_list (xs := rss[i].map V.int) (fun acc2 j ys2 H2' => ys2 = ((rss[i].take j).map fun to => ((i : Int) + to % 3) % r).map V.int ∧ H2' = upd H' acc2 (.lst ys2)) (fun acc2 h2 => ⟨rfl, rfl⟩) (fun acc2 j ys2 H2' h2 _ p => by rw [p.2]; exact SqL.of (by rw [upd_ne (ne_of_none z3 h2)]; exact z3)) (fun acc2 j x ys2 H2' h2 hx p => ?_) (fun acc2 ys2 H2' h2 p => ?_)
          · obtain ⟨rfl, rfl⟩ := p
            have hx0 := int_map_inv hx
            clear hx
            obtain ⟨x, rfl, hx⟩ := hx0
            have hj : j < rss[i].length := (List.getElem?_eq_some_iff.mp hx).1
            have hrl := (hW1.row rss[i] (List.getElem_mem hi')).1
            repeat walk_at "sx"
            refine ⟨Wk.set rfl, ?_⟩
            repeat walk_at "sx"
            refine ⟨upd_same, small1000 (by simp; omega), ?_, ?_⟩
            · rw [List.take_add_one, hx]; simp
            · rw [upd_upd]
          · obtain ⟨rfl, rfl⟩ := p
            have hla : acc ≠ acc2 := fun z => G.fresh h2 (by rw [z]; exact List.mem_cons_self)
            refine ⟨by rw [upd_ne hla]; exact G.top, small1000 (by simp; omega), rs' ++ [acc2], by simp, by simp [hlen'], ?_⟩
            have := G.snoc h2
            rw [hlen', egd] at this
            rw [List.length_map, List.take_length]
            exact this
        · obtain ⟨rs', rfl, hlen', G⟩ := p
          have Mg := G.mat
          have s3 : Same H H' := s2.trans G.same
          have hWg : Ways d ((List.range rs'.length).map (fun k => (rss.getD k []).map fun to => ((k : Int) + to % 3) % r)) := by
            refine ways_map _ _ hlen' hrp fun k hk => ?_
            have hk' : k < rss.length := by omega
            have egd : rss.getD k [] = rss[k] := by rw [List.getD_eq_getElem?_getD, List.getElem?_eq_getElem hk', Option.getD_some]
            rw [egd, List.length_map]
            refine ⟨(hW1.row rss[k] (List.getElem_mem hk')).1, fun x hx => ?_⟩
            obtain ⟨y, _, rfl⟩ := List.mem_map.mp hx
            exact ⟨Int.emod_nonneg _ (by omega), Int.emod_lt_of_pos _ hrp⟩
          have hlg : ((List.range rs'.length).map (fun k => (rss.getD k []).map fun to => ((k : Int) + to % 3) % r)).length = r.toNat := by simp [hlen']
          generalize ((List.range rs'.length).map (fun k => (rss.getD k []).map fun to => ((k : Int) + to % 3) % r)) = rss3 at Mg hWg hlg
          clear G hlen'
          repeat walk_at "sx"
          refine ⟨_, rfl, by omega, by omega, ?_⟩
          refine comp_range (fun acc i ys H3 => ys = ((List.range i).map fun (k : Nat) => decide ((k : Int) = cellv ns 3 % r)).map V.bl ∧ H3 = upd H' acc (.lst ys)) (fun acc hacc => ⟨rfl, rfl⟩) (fun acc2 i ys H3 hacc2 hi p => ?_) (fun acc2 ys H3 hacc2 p => ?_)
          · obtain ⟨rfl, rfl⟩ := p
            have e0 : (0 : Int) + (i : Int) = (i : Int) := by omega
            rw [e0]
            repeat walk_at "sx"
            refine ⟨Wk.set rfl, ?_⟩
            repeat walk_at "sx"
            refine ⟨a, ns, 3, rfl, sqL_same (s3.trans (Same.upd_new hacc2)) hS, by decide, ?_⟩
            repeat walk_at "sx"
            refine r_eq rfl ?_
            refine ⟨upd_same, small1000 (by simp; omega), ?_, ?_⟩
            · rw [map_range_snoc, List.map_append]
              congr 1
              simp
            · rw [upd_upd]
          · obtain ⟨rfl, rfl⟩ := p
            repeat walk_at "sx"
            exact ⟨s3.trans (Same.upd_new hacc2), acc, rs', rss3, acc2, _, Mg.same (Same.upd_new hacc2), hWg, hlg, upd_same, by simp, rfl⟩
      · repeat walk_at "sx"
        exact ⟨s2, aw, rs, rss, al, ls, M2, hW1, hl1, al2, hLl, rfl⟩
    clear M2 hW1 hl1 s2 al2 hLl
    rintro σ' H2 ⟨s2, aw, rs, rss, al, ls, M2, hW2, hl2, al2, hLl, rfl⟩
    repeat walk_at "sx"
    -- a chain
    refine r_join (fun σ' H' => Same H H' ∧ ∃ (d r : Int) (aw : Addr) (rs : List Addr) (rss : List (List Int)) (al : Addr) (ls : List Bool), 1 ≤ d ∧ d ≤ 6 ∧ 1 ≤ r ∧ r ≤ 40 ∧ Mat H' aw rs rss ∧ Ways d rss ∧ rss.length = r.toNat ∧ H' al = some (.lst (ls.map V.bl)) ∧ ls.length = r.toNat ∧ σ' = [some (.ref a), some (.int d), some (.int r), some (.ref aw), some (.ref al), none, none, none, none, none, none, none, none, none]) ?_ ?_
    · repeat walk_at "sx"
      refine ⟨a, ns, 4, rfl, sqL_same s2 hS, by decide, ?_⟩
      repeat walk_at "sx"
      refine r_eq rfl ?_
      repeat walk_at "sx"
      refine r_ite (fun hc => ?_) (fun hc => ?_)
      · repeat walk_at "sx"
        refine ⟨a, ns, 1, rfl, sqL_same s2 hS, by decide, ?_⟩
        repeat walk_at "sx"
        obtain ⟨r9, hr9⟩ : ∃ r9, r9 = 13 + cellv ns 1 / 8 % 18 := ⟨_, rfl⟩
        rw [← hr9]
        have hrp9 : (0 : Int) < r9 := by omega
        refine ⟨_, rfl, by omega, by omega, ?_⟩
        refine comp_range (fun acc i ys H' => ∃ rs', ys = rs'.map V.ref ∧ rs'.length = i ∧ Grown H2 H' acc rs' (fun k => [if r9 - 1 < (k : Int) + 1 then r9 - 1 else (k : Int) + 1])) (fun acc hacc => ⟨[], rfl, rfl, Grown.start hacc⟩) (fun acc i ys H' hacc hi p => ?_) (fun acc ys H' hacc p => ?_)
        · obtain ⟨rs', rfl, hlen', G⟩ := p
          have e0 : (0 : Int) + (i : Int) = (i : Int) := by omega
          rw [e0]
          repeat walk_at "sx"
          refine ⟨Wk.set rfl, ?_⟩
          repeat walk_at "sx"
          refine ⟨_, _, rfl, ?_⟩
          repeat walk_at "sx"
          refine ⟨by show 1 ≤ sizeLine; decide, fun acc2 h2 => ?_⟩
          have hla : acc ≠ acc2 := fun z => G.fresh h2 (by rw [z]; exact List.mem_cons_self)
          refine ⟨by rw [upd_ne hla]; exact G.top, small1000 (by simp; omega), rs' ++ [acc2], by simp, by simp [hlen'], ?_⟩
          have := G.snoc h2
          rw [hlen'] at this
          exact this
        · obtain ⟨rs', rfl, hlen', G⟩ := p
          have Mg := G.mat
          have s3 : Same H H' := s2.trans G.same
          have hWg : Ways 1 ((List.range rs'.length).map (fun k => [if r9 - 1 < ((k : Nat) : Int) + 1 then r9 - 1 else (k : Int) + 1])) := by
            refine ways_map _ _ hlen' hrp9 fun k hk => ⟨rfl, fun x hx => ?_⟩
            rw [List.mem_singleton.mp hx]
            split <;> omega
          have hlg : ((List.range rs'.length).map (fun k => [if r9 - 1 < ((k : Nat) : Int) + 1 then r9 - 1 else (k : Int) + 1])).length = r9.toNat := by simp [hlen']
          generalize ((List.range rs'.length).map (fun k => [if r9 - 1 < ((k : Nat) : Int) + 1 then r9 - 1 else (k : Int) + 1])) = rss3 at Mg hWg hlg
          clear G hlen'
          repeat walk_at "sx"
          refine ⟨_, rfl, by omega, by omega, ?_⟩
          refine comp_range (fun acc i ys H3 => ys = ((List.range i).map fun (k : Nat) => decide ((k : Int) = r9 - 1)).map V.bl ∧ H3 = upd H' acc (.lst ys)) (fun acc hacc => ⟨rfl, rfl⟩) (fun acc2 i ys H3 hacc2 hi p => ?_) (fun acc2 ys H3 hacc2 p => ?_)
          · obtain ⟨rfl, rfl⟩ := p
            have e0 : (0 : Int) + (i : Int) = (i : Int) := by omega
            rw [e0]
            repeat walk_at "sx"
            refine ⟨Wk.set rfl, ?_⟩
            repeat walk_at "sx"
            refine r_eq rfl ?_
            refine ⟨upd_same, small1000 (by simp; omega), ?_, ?_⟩
            · rw [map_range_snoc, List.map_append]
              congr 1
              simp
            · rw [upd_upd]
          · obtain ⟨rfl, rfl⟩ := p
            repeat walk_at "sx"
            exact ⟨s3.trans (Same.upd_new hacc2), 1, r9, acc, rs', rss3, acc2, _, by omega, by omega, by omega, by omega, Mg.same (Same.upd_new hacc2), hWg, hlg, upd_same, by simp, rfl⟩
      · repeat walk_at "sx"
        exact ⟨s2, d, r, aw, rs, rss, al, ls, by omega, by omega, by omega, by omega, M2, hW2, hl2, al2, hLl, rfl⟩
    clear M2 hW2 hl2 s2 al2 hLl hd1 hd6 hr1 hr8 hrp
    rintro σ' H3 ⟨hs3, d, r, aw, rs, rss, al, ls, hd1, hd6, hr1, hr2, M3, Wy, hl3, al3, hLl, rfl⟩
    have h0 : 0 < rss.length := by omega
    have hrp : (0 : Int) < r := by omega
    have Vd : Valid d rss ls := { row := Wy.row, d1 := hd1, d6 := hd6, r1 := by omega, r400 := by omega, ll := by omega }
    repeat walk_at "sx"
    intro hp hdx e1 e2 e3
    have sm : Same H3 (upd (upd H3 hdx (.own hp)) hp (.ins t.C_House hdx [])) := (Same.upd_new e2).trans (Same.upd_new (by rw [upd_ne (Ne.symm e3)]; exact e1))
    refine ⟨hp, hdx, d, aw, rs, rss, al, ls, rfl, upd_same, M3.same sm, SqL.of (sm _ _ al3), Vd, fun H4 aw4 rs4 al4 hh4 keep4 new4 => ⟨rfl, ?_⟩⟩
    have hs4 : Same H3 H4 := fun b o e => keep4 b o (sm b o e) (ne_of_none e e1)
    clear keep4 new4 sm e1 e2 e3
    have hS4 : SqL K H4 a (ns.map V.int) := sqL_same (hs3.trans hs4) hS
    have M4 := M3.same hs4
    have al4' := hs4 _ _ al3
    repeat walk_at "sx"
    refine ⟨a, ns, 5, rfl, hS4, by decide, ?_⟩
    repeat walk_at "sx"
    refine ⟨a, ns, 6, rfl, hS4, by decide, ?_⟩
    repeat walk_at "sx"
    obtain ⟨one, hone⟩ : ∃ x, x = cellv ns 5 % r := ⟨_, rfl⟩
    obtain ⟨oth, hoth⟩ : ∃ x, x = cellv ns 6 % r := ⟨_, rfl⟩
    rw [← hone, ← hoth]
    have o0 : 0 ≤ one := by rw [hone]; exact Int.emod_nonneg _ (by omega)
    have o1 : one < r := by rw [hone]; exact Int.emod_lt_of_pos _ hrp
    have t0 : 0 ≤ oth := by rw [hoth]; exact Int.emod_nonneg _ (by omega)
    have t1 : oth < r := by rw [hoth]; exact Int.emod_lt_of_pos _ hrp
    clear hone hoth
    refine ⟨a, ns, 7, rfl, hS4, by decide, ?_⟩
    repeat walk_at "sx"
    refine r_eq rfl ?_
    repeat walk_at "sx"
    refine r_ite (fun hc => ?_) (fun hc => ?_)
    · clear hc
      repeat walk_at "sx"
      refine ⟨a, ns, 8, rfl, hS4, by decide, ?_⟩
      repeat walk_at "sx"
      refine ⟨a, ns, 9, rfl, hS4, by decide, ?_⟩
      repeat walk_at "sx"
      refine r_I (.inl ⟨by omega, by omega⟩) ?_
      repeat walk_at "sx"
      obtain ⟨far, hfar⟩ : ∃ f, f = cellv ns 8 % 3 * (cellv ns 9 % 500) := ⟨_, rfl⟩
      rw [← hfar]
      have hf0 : 0 ≤ far := by rw [hfar]; exact Int.mul_nonneg (by omega) (by omega)
      have hf1 : far ≤ 2000 := by
        have h1 : cellv ns 8 % 3 = 0 ∨ cellv ns 8 % 3 = 1 ∨ cellv ns 8 % 3 = 2 := by omega
        rcases h1 with h1 | h1 | h1 <;> rw [hfar, h1] <;> omega
      clear hfar
      refine ⟨by show 2 ≤ sizeLine; decide, fun li hli => ?_⟩
      have hs5 : Same H4 (upd H4 li (.lst [.int (0 - 1 - far), .int (r + far)])) := Same.upd_new hli
      have li5 : (upd H4 li (.lst [.int (0 - 1 - far), .int (r + far)])) li = some (.lst [.int (0 - 1 - far), .int (r + far)]) := upd_same
      generalize upd H4 li (.lst [.int (0 - 1 - far), .int (r + far)]) = H5 at hs5 li5 ⊢
      repeat walk_at "sx"
      refine ⟨a, ns, 10, rfl, sqL_same hs5 hS4, by decide, ?_⟩
      repeat walk_at "sx"
      obtain ⟨bad, hb1, hbs, hb2⟩ : ∃ bad : Int, (([.int (0 - 1 - far), .int (r + far)] : List V)[(cellv ns 10 % 2).toNat]? = some (.int bad)) ∧ (-1000000 ≤ bad ∧ bad ≤ 1000000) ∧ ¬ (0 ≤ bad ∧ bad < rss.length) := by
        have h9 : cellv ns 10 % 2 = 0 ∨ cellv ns 10 % 2 = 1 := by omega
        rcases h9 with h9 | h9 <;> rw [h9]
        · exact ⟨_, rfl, ⟨by omega, by omega⟩, by omega⟩
        · exact ⟨_, rfl, ⟨by omega, by omega⟩, by omega⟩
      refine r_ixL (SqL.of li5) (atI_get' (by omega) hb1) ?_
      repeat walk_at "sx"
      refine ⟨a, ns, 11, rfl, sqL_same hs5 hS4, by decide, ?_⟩
      repeat walk_at "sx"
      refine ⟨by show 3 ≤ sizeLine; decide, fun l1 hl1 => ?_⟩
      have hs6 : Same H5 (upd H5 l1 (.lst [.int bad, .int one, .int bad])) := Same.upd_new hl1
      have l16 : (upd H5 l1 (.lst [.int bad, .int one, .int bad])) l1 = some (.lst [.int bad, .int one, .int bad]) := upd_same
      generalize upd H5 l1 (.lst [.int bad, .int one, .int bad]) = H6 at hs6 l16 ⊢
      have hpl : cellv ns 11 % 3 = 0 ∨ cellv ns 11 % 3 = 1 ∨ cellv ns 11 % 3 = 2 := by omega
      obtain ⟨x, y, hx, hy, hxs, hys, hno⟩ : ∃ x y : Int, (([.int bad, .int one, .int bad] : List V)[(cellv ns 11 % 3).toNat]? = some (.int x)) ∧ (([.int oth, .int bad, .int bad] : List V)[(cellv ns 11 % 3).toNat]? = some (.int y)) ∧ (-1000000 ≤ x ∧ x ≤ 1000000) ∧ (-1000000 ≤ y ∧ y ≤ 1000000) ∧ ¬ (0 ≤ x ∧ x < rss.length ∧ 0 ≤ y ∧ y < rss.length) := by
        rcases hpl with h9 | h9 | h9 <;> rw [h9]
        · exact ⟨_, _, rfl, rfl, hbs, ⟨by omega, by omega⟩, fun z => hb2 ⟨z.1, z.2.1⟩⟩
        · exact ⟨_, _, rfl, rfl, ⟨by omega, by omega⟩, hbs, fun z => hb2 ⟨z.2.2.1, z.2.2.2⟩⟩
        · exact ⟨_, _, rfl, rfl, hbs, hbs, fun z => hb2 ⟨z.1, z.2.1⟩⟩
      repeat walk_at "sx"
      refine r_ixL (SqL.of l16) (atI_get' (by omega) hx) ?_
      repeat walk_at "sx"
      refine ⟨by show 3 ≤ sizeLine; decide, fun l2 hl2 => ?_⟩
      have hs7 : Same H6 (upd H6 l2 (.lst [.int oth, .int bad, .int bad])) := Same.upd_new hl2
      have l27 : (upd H6 l2 (.lst [.int oth, .int bad, .int bad])) l2 = some (.lst [.int oth, .int bad, .int bad]) := upd_same
      generalize upd H6 l2 (.lst [.int oth, .int bad, .int bad]) = H7 at hs7 l27 ⊢
      repeat walk_at "sx"
      refine r_ixL (SqL.of l27) (atI_get' (by omega) hy) ?_
      repeat walk_at "sx"
      exact ⟨hp, d, aw4, rs4, rss, al4, ls, x, y, rfl, hh4.same ((hs5.trans hs6).trans hs7), Vd, hxs.1, hxs.2, hys.1, hys.2, hno, fun H' _ => q H'⟩
    clear hc
    repeat walk_at "sx"
    have hPI : PairIn d rss rss ls ls one oth := ⟨Wy, Wy, by omega, by omega, o0, by omega, t0, by omega, hd1, hd6, by
      have h40 : rss.length ≤ 40 := by omega
      exact Nat.le_trans (Nat.mul_le_mul h40 h40) (by decide)⟩
    refine ⟨aw, rs, rss, al, ls, one, aw, rs, rss, al, ls, oth, d, rfl, M4, SqL.of al4', M4, SqL.of al4', hPI, fun H5 hs5 hno => ?_, fun H5 dp w hs5 hdp hnew hP => ?_⟩
    · -- alike
      have hh5 := hh4.same hs5
      repeat walk_at "sx"
      refine ⟨_, rfl, by decide, by decide, ?_⟩
      refine for_range (fun i σ H' => Same H5 H' ∧ ∃ q12 q13, σ = [some (.ref a), some (.int d), some (.int r), some (.ref aw), some (.ref al), some (.ref hp), some (.int one), some (.int oth), none, none, none, some .non, q12, q13]) ⟨Same.refl _, none, none, rfl⟩ (fun i σ H' hi pp => ?_) (fun σ H' pp => ?_)
      · obtain ⟨hs, q12, q13, rfl⟩ := pp
        repeat walk_at "sx"
        refine ⟨hp, d, aw4, rs4, rss, al4, ls, one, oth, rfl, hh5.same hs, Vd, by omega, by omega, by omega, by omega, fun _ => ⟨fun H6 hs6 _ => ?_, fun H6 x w hs6 hx _ hP _ => absurd (hno w hP.ok) hP.un⟩, fun z => absurd ⟨o0, by omega, t0, by omega⟩ z⟩
        repeat walk_at "sx"
        refine ⟨rfl, ?_⟩
        repeat walk_at "sx"
        refine r_iteP (by simp) ?_
        repeat walk_at "sx"
        refine ⟨rfl, ?_⟩
        repeat walk_at "sx"
        refine r_iteN (by simp) ?_
        repeat walk_at "sx"
        refine r_join (fun σ' H7 => Same H5 H7 ∧ ∃ q12 q13, σ' = [some (.ref a), some (.int d), some (.int r), some (.ref aw), some (.ref al), some (.ref hp), some (.int one), some (.int oth), none, none, none, some .non, q12, q13]) ?_ (fun _ _ z => z)
        repeat walk_at "sx"
        refine ⟨rfl, ?_⟩
        repeat walk_at "sx"
        refine r_iteN (by simp) ?_
        repeat walk_at "sx"
        exact ⟨hs.trans hs6, _, _, rfl⟩
      · obtain ⟨hs, q12, q13, rfl⟩ := pp
        repeat walk_at "sx"
        exact q H'
    · -- parted
      have hh5 := hh4.same hs5
      have M5 := M4.same hs5
      have al5 := hs5 _ _ al4'
      repeat walk_at "sx"
      refine ⟨_, rfl, by decide, by decide, ?_⟩
      refine for_range (fun i σ H' => Same H5 H' ∧ ∃ q12 q13, σ = [some (.ref a), some (.int d), some (.int r), some (.ref aw), some (.ref al), some (.ref hp), some (.int one), some (.int oth), none, none, none, some (.ref dp), q12, q13]) ⟨Same.refl _, none, none, rfl⟩ (fun i σ H' hi pp => ?_) (fun σ H' pp => ?_)
      · obtain ⟨hs, q12, q13, rfl⟩ := pp
        repeat walk_at "sx"
        refine ⟨hp, d, aw4, rs4, rss, al4, ls, one, oth, rfl, hh5.same hs, Vd, by omega, by omega, by omega, by omega, fun _ => ⟨fun H6 hs6 hno => absurd (hno w hP.ok) hP.un, fun H6 fp w' hs6 hfp hfn hP' hw' => ?_⟩, fun z => absurd ⟨o0, by omega, t0, by omega⟩ z⟩
        have ew : w' = w := hP'.uniq hP
        subst ew
        have s6 : Same H5 H6 := hs.trans hs6
        have M6 := M5.same s6
        have al6 := s6 _ _ al5
        obtain ⟨b0, b1⟩ := walkI_in Wy hP.ok o0 (by omega)
        obtain ⟨c0, c1⟩ := walkI_in Wy hP.ok t0 (by omega)
        have i1 : (walkI rss one w').toNat < ls.length := by omega
        have i2 : (walkI rss oth w').toNat < ls.length := by omega
        have lx : lampI ls (walkI rss one w') = ls[(walkI rss one w').toNat] := by unfold lampI; rw [List.getD_eq_getElem?_getD, List.getElem?_eq_getElem i1, Option.getD_some]
        have ly : lampI ls (walkI rss oth w') = ls[(walkI rss oth w').toNat] := by unfold lampI; rw [List.getD_eq_getElem?_getD, List.getElem?_eq_getElem i2, Option.getD_some]
        have hun := hP.un
        rw [lx, ly] at hun
        repeat walk_at "sx"
        refine ⟨rfl, ?_⟩
        repeat walk_at "sx"
        refine r_iteN (by simp) ?_
        repeat walk_at "sx"
        refine r_join (fun σ' H7 => Same H5 H7 ∧ ∃ q12 q13, σ' = [some (.ref a), some (.int d), some (.int r), some (.ref aw), some (.ref al), some (.ref hp), some (.int one), some (.int oth), none, none, none, some (.ref dp), q12, q13]) ?_ (fun _ _ z => z)
        repeat walk_at "sx"
        refine ⟨rfl, ?_⟩
        repeat walk_at "sx"
        refine r_iteP (by simp) ?_
        repeat walk_at "sx"
        refine ⟨fp, w', d, rfl, hfp, hP.ok, ?_⟩
        repeat walk_at "sx"
        refine r_iteN (by simp) ?_
        repeat walk_at "sx"
        refine ⟨fp, dp, w', w', rfl, rfl, SqL.of hfp, SqL.of (s6 _ _ hdp), ?_⟩
        repeat walk_at "sx"
        refine r_iteN (by simp) ?_
        repeat walk_at "sx"
        refine ⟨aw, rs, rss, d, one, fp, w', rfl, M6, Wy, SqL.of hfp, hP.ok, o0, by omega, ?_⟩
        repeat walk_at "sx"
        refine r_ixL (SqL.of al6) (atI_get' b0 (bl_map_get (List.getElem?_eq_getElem i1))) ?_
        repeat walk_at "sx"
        refine ⟨aw, rs, rss, d, oth, fp, w', rfl, M6, Wy, SqL.of hfp, hP.ok, t0, by omega, ?_⟩
        repeat walk_at "sx"
        refine r_ixL (SqL.of al6) (atI_get' c0 (bl_map_get (List.getElem?_eq_getElem i2))) ?_
        refine r_eq rfl ?_
        repeat walk_at "sx"
        refine r_iteN (by simpa using hun) ?_
        repeat walk_at "sx"
        refine ⟨.inl ⟨rfl, _, SqL.of hfp⟩, ?_⟩
        repeat walk_at "sx"
        refine ⟨fp, _, _, rfl, rfl, hfp, Nat.lt_of_le_of_lt (show _ ≤ 1000 by rw [List.length_map]; exact hw') (by decide), ?_⟩
        exact ⟨hs.trans (hs6.upd_fresh hfn), _, _, rfl⟩
      · obtain ⟨hs, q12, q13, rfl⟩ := pp
        repeat walk_at "sx"
        exact q H'
end
theorem txt_mk {K : PySem.W.Frag} {h : Heap} {mg : Str → Option Value} (X : K.In h) (G : h.Ns mainGlobals mg) {tk_MOST_DOORS : Tok} {tk_MOST_ROOMS : Tok} {C_House : Addr} {C_HouseError : Addr} {C_BadHouse : Addr} {C_BadWord : Addr} {C_NoRoom : Addr} {f_check_doors : Addr} {oc_check_doors kV_check_doors dc_check_doors pm_check_doors cd_check_doors ct_check_doors : Value} {od_check_doors an_check_doors : Option Addr} {sl_check_doors : Array (Option Value)} {f_check_house : Addr} {oc_check_house kV_check_house dc_check_house pm_check_house cd_check_house ct_check_house : Value} {od_check_house an_check_house : Option Addr} {sl_check_house : Array (Option Value)} {f_House_init : Addr} {oc_House_init kV_House_init dc_House_init pm_House_init cd_House_init ct_House_init : Value} {od_House_init an_House_init : Option Addr} {sl_House_init : Array (Option Value)} {f_House_rooms : Addr} {oc_House_rooms kV_House_rooms dc_House_rooms pm_House_rooms cd_House_rooms ct_House_rooms : Value} {od_House_rooms an_House_rooms : Option Addr} {sl_House_rooms : Array (Option Value)} {f_leader : Addr} {oc_leader kV_leader dc_leader pm_leader cd_leader ct_leader : Value} {od_leader an_leader : Option Addr} {sl_leader : Array (Option Value)} {f_newly_linked : Addr} {oc_newly_linked kV_newly_linked dc_newly_linked pm_newly_linked cd_newly_linked ct_newly_linked : Value} {od_newly_linked an_newly_linked : Option Addr} {sl_newly_linked : Array (Option Value)} {f_pairs_behind : Addr} {oc_pairs_behind kV_pairs_behind dc_pairs_behind pm_pairs_behind cd_pairs_behind ct_pairs_behind : Value} {od_pairs_behind an_pairs_behind : Option Addr} {sl_pairs_behind : Array (Option Value)} {f_parting_word : Addr} {oc_parting_word kV_parting_word dc_parting_word pm_parting_word cd_parting_word ct_parting_word : Value} {od_parting_word an_parting_word : Option Addr} {sl_parting_word : Array (Option Value)} {f_check_room : Addr} {oc_check_room kV_check_room dc_check_room pm_check_room cd_check_room ct_check_room : Value} {od_check_room an_check_room : Option Addr} {sl_check_room : Array (Option Value)} {f_apart : Addr} {oc_apart kV_apart dc_apart pm_apart cd_apart ct_apart : Value} {od_apart an_apart : Option Addr} {sl_apart : Array (Option Value)} {f_l_cell_at : Addr} {oc_l_cell_at kV_l_cell_at dc_l_cell_at pm_l_cell_at cd_l_cell_at ct_l_cell_at : Value} {od_l_cell_at an_l_cell_at : Option Addr} {sl_l_cell_at : Array (Option Value)} {f_l_draw : Addr} {oc_l_draw kV_l_draw dc_l_draw pm_l_draw cd_l_draw ct_l_draw : Value} {od_l_draw an_l_draw : Option Addr} {sl_l_draw : Array (Option Value)} {f_l_ways_by : Addr} {oc_l_ways_by kV_l_ways_by dc_l_ways_by pm_l_ways_by cd_l_ways_by ct_l_ways_by : Value} {od_l_ways_by an_l_ways_by : Option Addr} {sl_l_ways_by : Array (Option Value)} {f_l_lamps_by : Addr} {oc_l_lamps_by kV_l_lamps_by dc_l_lamps_by pm_l_lamps_by cd_l_lamps_by ct_l_lamps_by : Value} {od_l_lamps_by an_l_lamps_by : Option Addr} {sl_l_lamps_by : Array (Option Value)} {f_l_walk : Addr} {oc_l_walk kV_l_walk dc_l_walk pm_l_walk cd_l_walk ct_l_walk : Value} {od_l_walk an_l_walk : Option Addr} {sl_l_walk : Array (Option Value)} {f_l_whole : Addr} {oc_l_whole kV_l_whole dc_l_whole pm_l_whole cd_l_whole ct_l_whole : Value} {od_l_whole an_l_whole : Option Addr} {sl_l_whole : Array (Option Value)} {f_l_is_word : Addr} {oc_l_is_word kV_l_is_word dc_l_is_word pm_l_is_word cd_l_is_word ct_l_is_word : Value} {od_l_is_word an_l_is_word : Option Addr} {sl_l_is_word : Array (Option Value)} {f_l_part : Addr} {oc_l_part kV_l_part dc_l_part pm_l_part cd_l_part ct_l_part : Value} {od_l_part an_l_part : Option Addr} {sl_l_part : Array (Option Value)} {f_l_stands_under : Addr} {oc_l_stands_under kV_l_stands_under dc_l_stands_under pm_l_stands_under cd_l_stands_under ct_l_stands_under : Value} {od_l_stands_under an_l_stands_under : Option Addr} {sl_l_stands_under : Array (Option Value)} {f_l_refused : Addr} {oc_l_refused kV_l_refused dc_l_refused pm_l_refused cd_l_refused ct_l_refused : Value} {od_l_refused an_l_refused : Option Addr} {sl_l_refused : Array (Option Value)} {f_law : Addr} {oc_law kV_law dc_law pm_law cd_law ct_law : Value} {od_law an_law : Option Addr} {sl_law : Array (Option Value)}
    (z_len : PySem.W.nsIn K mainGlobals "len" = some none)
    (z_range : PySem.W.nsIn K mainGlobals "range" = some none)
    (z_isinstance : PySem.W.nsIn K mainGlobals "isinstance" = some none)
    (z_list : PySem.W.nsIn K mainGlobals "list" = some none)
    (z_int : PySem.W.nsIn K mainGlobals "int" = some none)
    (z_bool : PySem.W.nsIn K mainGlobals "bool" = some none)
    (z_enumerate : PySem.W.nsIn K mainGlobals "enumerate" = some none)
    (z_min : PySem.W.nsIn K mainGlobals "min" = some none)
    (z_ValueError : PySem.W.nsIn K mainGlobals "ValueError" = some none)
    (c_MOST_DOORS : PySem.W.nsIn K mainGlobals "MOST_DOORS" = some (some (.int 6 tk_MOST_DOORS)))
    (c_MOST_ROOMS : PySem.W.nsIn K mainGlobals "MOST_ROOMS" = some (some (.int 400 tk_MOST_ROOMS)))
    (a_House : PySem.W.nsIn K mainGlobals "House" = some (some (.ref C_House)))
    (pg_House : PySem.W.plainGet K C_House Str.empty = true)
    (hd_House : PySem.W.hasDictIn K C_House = true)
    (po_House : PySem.W.plainOver K C_House = true)
    (sa_House : PySem.W.findIn K (.ref C_House) "__setattr__" = some (some (.builtin "object.__setattr__")))
    (mk_House : PySem.W.makesIn K C_House = true)
    (kc_House : PySem.W.keepIn K (.ref C_House) = true)
    (tc_House : PySem.W.findIn K (.ref C_House) "__class__" = some (some (.builtin "object.__class__")))
    (tm_House : PySem.W.mroIn K C_House (.type "object") = some true)
    (n_House_doors : PySem.W.findIn K (.ref C_House) "doors" = some none)
    (n_House_ways : PySem.W.findIn K (.ref C_House) "ways" = some none)
    (n_House_lamps : PySem.W.findIn K (.ref C_House) "lamps" = some none)
    (a_HouseError : PySem.W.nsIn K mainGlobals "HouseError" = some (some (.ref C_HouseError)))
    (x_HouseError : PySem.W.excIn K C_HouseError bmV "ValueError.__new__" = true)
    (g1_HouseError : PySem.W.findIn K (.ref C_HouseError) "__getattribute__" = some (some (.builtin "BaseException.__getattribute__")))
    (g2_HouseError : PySem.W.findIn K (.ref C_HouseError) "__getattr__" = some none)
    (g3_HouseError : PySem.W.findIn K (.ref C_HouseError) "__class__" = some (some (.builtin "object.__class__")))
    (g4_HouseError : PySem.W.isClsIn K C_HouseError = true)
    (ty_HouseError : PySem.W.typeIn K (.ref C_HouseError) = some (.type "type"))
    (mv_HouseError : PySem.W.mroIn K C_HouseError (.type "ValueError") = some true)
    (ms_HouseError : PySem.W.mroIn K C_HouseError (.ref C_HouseError) = some true)
    (a_BadHouse : PySem.W.nsIn K mainGlobals "BadHouse" = some (some (.ref C_BadHouse)))
    (x_BadHouse : PySem.W.excIn K C_BadHouse bmV "ValueError.__new__" = true)
    (g1_BadHouse : PySem.W.findIn K (.ref C_BadHouse) "__getattribute__" = some (some (.builtin "BaseException.__getattribute__")))
    (g2_BadHouse : PySem.W.findIn K (.ref C_BadHouse) "__getattr__" = some none)
    (g3_BadHouse : PySem.W.findIn K (.ref C_BadHouse) "__class__" = some (some (.builtin "object.__class__")))
    (g4_BadHouse : PySem.W.isClsIn K C_BadHouse = true)
    (ty_BadHouse : PySem.W.typeIn K (.ref C_BadHouse) = some (.type "type"))
    (mv_BadHouse : PySem.W.mroIn K C_BadHouse (.type "ValueError") = some true)
    (ms_BadHouse : PySem.W.mroIn K C_BadHouse (.ref C_BadHouse) = some true)
    (a_BadWord : PySem.W.nsIn K mainGlobals "BadWord" = some (some (.ref C_BadWord)))
    (x_BadWord : PySem.W.excIn K C_BadWord bmV "ValueError.__new__" = true)
    (g1_BadWord : PySem.W.findIn K (.ref C_BadWord) "__getattribute__" = some (some (.builtin "BaseException.__getattribute__")))
    (g2_BadWord : PySem.W.findIn K (.ref C_BadWord) "__getattr__" = some none)
    (g3_BadWord : PySem.W.findIn K (.ref C_BadWord) "__class__" = some (some (.builtin "object.__class__")))
    (g4_BadWord : PySem.W.isClsIn K C_BadWord = true)
    (ty_BadWord : PySem.W.typeIn K (.ref C_BadWord) = some (.type "type"))
    (mv_BadWord : PySem.W.mroIn K C_BadWord (.type "ValueError") = some true)
    (ms_BadWord : PySem.W.mroIn K C_BadWord (.ref C_BadWord) = some true)
    (a_NoRoom : PySem.W.nsIn K mainGlobals "NoRoom" = some (some (.ref C_NoRoom)))
    (x_NoRoom : PySem.W.excIn K C_NoRoom bmV "ValueError.__new__" = true)
    (g1_NoRoom : PySem.W.findIn K (.ref C_NoRoom) "__getattribute__" = some (some (.builtin "BaseException.__getattribute__")))
    (g2_NoRoom : PySem.W.findIn K (.ref C_NoRoom) "__getattr__" = some none)
    (g3_NoRoom : PySem.W.findIn K (.ref C_NoRoom) "__class__" = some (some (.builtin "object.__class__")))
    (g4_NoRoom : PySem.W.isClsIn K C_NoRoom = true)
    (ty_NoRoom : PySem.W.typeIn K (.ref C_NoRoom) = some (.type "type"))
    (mv_NoRoom : PySem.W.mroIn K C_NoRoom (.type "ValueError") = some true)
    (ms_NoRoom : PySem.W.mroIn K C_NoRoom (.ref C_NoRoom) = some true)
    (mr_HouseError_NoRoom : PySem.W.mroIn K C_HouseError (.ref C_NoRoom) = some false)
    (mr_NoRoom_HouseError : PySem.W.mroIn K C_NoRoom (.ref C_HouseError) = some true)
    (mr_NoRoom_BadHouse : PySem.W.mroIn K C_NoRoom (.ref C_BadHouse) = some false)
    (mr_NoRoom_BadWord : PySem.W.mroIn K C_NoRoom (.ref C_BadWord) = some false)
    (tg : PySem.W.specialIn K (.builtin "object.__class__") "__get__" = some (some (.builtin "getset_descriptor.__get__")))
    (tt : PySem.W.takesIn K (.builtin "object.__class__") = some true)
    (a_check_doors : PySem.W.nsIn K mainGlobals "check_doors" = some (some (.ref f_check_doors)))
    (l_check_doors : K.lookup f_check_doors = some ⟨oc_check_doors, od_check_doors, .func (PySem.W.fnOf "check_doors" "check_doors" (defArgs s_check_doors) (defBody s_check_doors) (defScope s_check_doors) .none kV_check_doors dc_check_doors pm_check_doors an_check_doors cd_check_doors ct_check_doors), sl_check_doors⟩)
    (c_check_doors : PySem.W.codeIn K cd_check_doors "check_doors" = true)
    (k_check_doors : PySem.W.keepIn K (.ref f_check_doors) = true)
    (a_check_house : PySem.W.nsIn K mainGlobals "check_house" = some (some (.ref f_check_house)))
    (l_check_house : K.lookup f_check_house = some ⟨oc_check_house, od_check_house, .func (PySem.W.fnOf "check_house" "check_house" (defArgs s_check_house) (defBody s_check_house) (defScope s_check_house) .none kV_check_house dc_check_house pm_check_house an_check_house cd_check_house ct_check_house), sl_check_house⟩)
    (c_check_house : PySem.W.codeIn K cd_check_house "check_house" = true)
    (k_check_house : PySem.W.keepIn K (.ref f_check_house) = true)
    (a_House_init : PySem.W.findIn K (.ref C_House) "__init__" = some (some (.ref f_House_init)))
    (i_House_init : PySem.W.isFn K (.ref f_House_init) = true)
    (l_House_init : K.lookup f_House_init = some ⟨oc_House_init, od_House_init, .func (PySem.W.fnOf "__init__" "House.__init__" (defArgs s_House_init) (defBody s_House_init) (defScope s_House_init) .none kV_House_init dc_House_init pm_House_init an_House_init cd_House_init ct_House_init), sl_House_init⟩)
    (c_House_init : PySem.W.codeIn K cd_House_init "House.__init__" = true)
    (k_House_init : PySem.W.keepIn K (.ref f_House_init) = true)
    (a_House_rooms : PySem.W.findIn K (.ref C_House) "rooms" = some (some (.ref f_House_rooms)))
    (i_House_rooms : PySem.W.isFn K (.ref f_House_rooms) = true)
    (l_House_rooms : K.lookup f_House_rooms = some ⟨oc_House_rooms, od_House_rooms, .func (PySem.W.fnOf "rooms" "House.rooms" (defArgs s_House_rooms) (defBody s_House_rooms) (defScope s_House_rooms) .none kV_House_rooms dc_House_rooms pm_House_rooms an_House_rooms cd_House_rooms ct_House_rooms), sl_House_rooms⟩)
    (c_House_rooms : PySem.W.codeIn K cd_House_rooms "House.rooms" = true)
    (k_House_rooms : PySem.W.keepIn K (.ref f_House_rooms) = true)
    (a_leader : PySem.W.nsIn K mainGlobals "leader" = some (some (.ref f_leader)))
    (l_leader : K.lookup f_leader = some ⟨oc_leader, od_leader, .func (PySem.W.fnOf "leader" "leader" (defArgs s_leader) (defBody s_leader) (defScope s_leader) .none kV_leader dc_leader pm_leader an_leader cd_leader ct_leader), sl_leader⟩)
    (c_leader : PySem.W.codeIn K cd_leader "leader" = true)
    (k_leader : PySem.W.keepIn K (.ref f_leader) = true)
    (a_newly_linked : PySem.W.nsIn K mainGlobals "newly_linked" = some (some (.ref f_newly_linked)))
    (l_newly_linked : K.lookup f_newly_linked = some ⟨oc_newly_linked, od_newly_linked, .func (PySem.W.fnOf "newly_linked" "newly_linked" (defArgs s_newly_linked) (defBody s_newly_linked) (defScope s_newly_linked) .none kV_newly_linked dc_newly_linked pm_newly_linked an_newly_linked cd_newly_linked ct_newly_linked), sl_newly_linked⟩)
    (c_newly_linked : PySem.W.codeIn K cd_newly_linked "newly_linked" = true)
    (k_newly_linked : PySem.W.keepIn K (.ref f_newly_linked) = true)
    (a_pairs_behind : PySem.W.nsIn K mainGlobals "pairs_behind" = some (some (.ref f_pairs_behind)))
    (l_pairs_behind : K.lookup f_pairs_behind = some ⟨oc_pairs_behind, od_pairs_behind, .func (PySem.W.fnOf "pairs_behind" "pairs_behind" (defArgs s_pairs_behind) (defBody s_pairs_behind) (defScope s_pairs_behind) .none kV_pairs_behind dc_pairs_behind pm_pairs_behind an_pairs_behind cd_pairs_behind ct_pairs_behind), sl_pairs_behind⟩)
    (c_pairs_behind : PySem.W.codeIn K cd_pairs_behind "pairs_behind" = true)
    (k_pairs_behind : PySem.W.keepIn K (.ref f_pairs_behind) = true)
    (a_parting_word : PySem.W.nsIn K mainGlobals "parting_word" = some (some (.ref f_parting_word)))
    (l_parting_word : K.lookup f_parting_word = some ⟨oc_parting_word, od_parting_word, .func (PySem.W.fnOf "parting_word" "parting_word" (defArgs s_parting_word) (defBody s_parting_word) (defScope s_parting_word) .none kV_parting_word dc_parting_word pm_parting_word an_parting_word cd_parting_word ct_parting_word), sl_parting_word⟩)
    (c_parting_word : PySem.W.codeIn K cd_parting_word "parting_word" = true)
    (k_parting_word : PySem.W.keepIn K (.ref f_parting_word) = true)
    (a_check_room : PySem.W.nsIn K mainGlobals "check_room" = some (some (.ref f_check_room)))
    (l_check_room : K.lookup f_check_room = some ⟨oc_check_room, od_check_room, .func (PySem.W.fnOf "check_room" "check_room" (defArgs s_check_room) (defBody s_check_room) (defScope s_check_room) .none kV_check_room dc_check_room pm_check_room an_check_room cd_check_room ct_check_room), sl_check_room⟩)
    (c_check_room : PySem.W.codeIn K cd_check_room "check_room" = true)
    (k_check_room : PySem.W.keepIn K (.ref f_check_room) = true)
    (a_apart : PySem.W.nsIn K mainGlobals "apart" = some (some (.ref f_apart)))
    (l_apart : K.lookup f_apart = some ⟨oc_apart, od_apart, .func (PySem.W.fnOf "apart" "apart" (defArgs s_apart) (defBody s_apart) (defScope s_apart) .none kV_apart dc_apart pm_apart an_apart cd_apart ct_apart), sl_apart⟩)
    (c_apart : PySem.W.codeIn K cd_apart "apart" = true)
    (k_apart : PySem.W.keepIn K (.ref f_apart) = true)
    (a_l_cell_at : PySem.W.nsIn K mainGlobals "_law_cell_at" = some (some (.ref f_l_cell_at)))
    (l_l_cell_at : K.lookup f_l_cell_at = some ⟨oc_l_cell_at, od_l_cell_at, .func (PySem.W.fnOf "_law_cell_at" "_law_cell_at" (defArgs s_l_cell_at) (defBody s_l_cell_at) (defScope s_l_cell_at) .none kV_l_cell_at dc_l_cell_at pm_l_cell_at an_l_cell_at cd_l_cell_at ct_l_cell_at), sl_l_cell_at⟩)
    (c_l_cell_at : PySem.W.codeIn K cd_l_cell_at "_law_cell_at" = true)
    (k_l_cell_at : PySem.W.keepIn K (.ref f_l_cell_at) = true)
    (a_l_draw : PySem.W.nsIn K mainGlobals "_law_draw" = some (some (.ref f_l_draw)))
    (l_l_draw : K.lookup f_l_draw = some ⟨oc_l_draw, od_l_draw, .func (PySem.W.fnOf "_law_draw" "_law_draw" (defArgs s_l_draw) (defBody s_l_draw) (defScope s_l_draw) .none kV_l_draw dc_l_draw pm_l_draw an_l_draw cd_l_draw ct_l_draw), sl_l_draw⟩)
    (c_l_draw : PySem.W.codeIn K cd_l_draw "_law_draw" = true)
    (k_l_draw : PySem.W.keepIn K (.ref f_l_draw) = true)
    (a_l_ways_by : PySem.W.nsIn K mainGlobals "_law_ways_by" = some (some (.ref f_l_ways_by)))
    (l_l_ways_by : K.lookup f_l_ways_by = some ⟨oc_l_ways_by, od_l_ways_by, .func (PySem.W.fnOf "_law_ways_by" "_law_ways_by" (defArgs s_l_ways_by) (defBody s_l_ways_by) (defScope s_l_ways_by) .none kV_l_ways_by dc_l_ways_by pm_l_ways_by an_l_ways_by cd_l_ways_by ct_l_ways_by), sl_l_ways_by⟩)
    (c_l_ways_by : PySem.W.codeIn K cd_l_ways_by "_law_ways_by" = true)
    (k_l_ways_by : PySem.W.keepIn K (.ref f_l_ways_by) = true)
    (a_l_lamps_by : PySem.W.nsIn K mainGlobals "_law_lamps_by" = some (some (.ref f_l_lamps_by)))
    (l_l_lamps_by : K.lookup f_l_lamps_by = some ⟨oc_l_lamps_by, od_l_lamps_by, .func (PySem.W.fnOf "_law_lamps_by" "_law_lamps_by" (defArgs s_l_lamps_by) (defBody s_l_lamps_by) (defScope s_l_lamps_by) .none kV_l_lamps_by dc_l_lamps_by pm_l_lamps_by an_l_lamps_by cd_l_lamps_by ct_l_lamps_by), sl_l_lamps_by⟩)
    (c_l_lamps_by : PySem.W.codeIn K cd_l_lamps_by "_law_lamps_by" = true)
    (k_l_lamps_by : PySem.W.keepIn K (.ref f_l_lamps_by) = true)
    (a_l_walk : PySem.W.nsIn K mainGlobals "_law_walk" = some (some (.ref f_l_walk)))
    (l_l_walk : K.lookup f_l_walk = some ⟨oc_l_walk, od_l_walk, .func (PySem.W.fnOf "_law_walk" "_law_walk" (defArgs s_l_walk) (defBody s_l_walk) (defScope s_l_walk) .none kV_l_walk dc_l_walk pm_l_walk an_l_walk cd_l_walk ct_l_walk), sl_l_walk⟩)
    (c_l_walk : PySem.W.codeIn K cd_l_walk "_law_walk" = true)
    (k_l_walk : PySem.W.keepIn K (.ref f_l_walk) = true)
    (a_l_whole : PySem.W.nsIn K mainGlobals "_law_whole" = some (some (.ref f_l_whole)))
    (l_l_whole : K.lookup f_l_whole = some ⟨oc_l_whole, od_l_whole, .func (PySem.W.fnOf "_law_whole" "_law_whole" (defArgs s_l_whole) (defBody s_l_whole) (defScope s_l_whole) .none kV_l_whole dc_l_whole pm_l_whole an_l_whole cd_l_whole ct_l_whole), sl_l_whole⟩)
    (c_l_whole : PySem.W.codeIn K cd_l_whole "_law_whole" = true)
    (k_l_whole : PySem.W.keepIn K (.ref f_l_whole) = true)
    (a_l_is_word : PySem.W.nsIn K mainGlobals "_law_is_word" = some (some (.ref f_l_is_word)))
    (l_l_is_word : K.lookup f_l_is_word = some ⟨oc_l_is_word, od_l_is_word, .func (PySem.W.fnOf "_law_is_word" "_law_is_word" (defArgs s_l_is_word) (defBody s_l_is_word) (defScope s_l_is_word) .none kV_l_is_word dc_l_is_word pm_l_is_word an_l_is_word cd_l_is_word ct_l_is_word), sl_l_is_word⟩)
    (c_l_is_word : PySem.W.codeIn K cd_l_is_word "_law_is_word" = true)
    (k_l_is_word : PySem.W.keepIn K (.ref f_l_is_word) = true)
    (a_l_part : PySem.W.nsIn K mainGlobals "_law_part" = some (some (.ref f_l_part)))
    (l_l_part : K.lookup f_l_part = some ⟨oc_l_part, od_l_part, .func (PySem.W.fnOf "_law_part" "_law_part" (defArgs s_l_part) (defBody s_l_part) (defScope s_l_part) .none kV_l_part dc_l_part pm_l_part an_l_part cd_l_part ct_l_part), sl_l_part⟩)
    (c_l_part : PySem.W.codeIn K cd_l_part "_law_part" = true)
    (k_l_part : PySem.W.keepIn K (.ref f_l_part) = true)
    (a_l_stands_under : PySem.W.nsIn K mainGlobals "_law_stands_under" = some (some (.ref f_l_stands_under)))
    (l_l_stands_under : K.lookup f_l_stands_under = some ⟨oc_l_stands_under, od_l_stands_under, .func (PySem.W.fnOf "_law_stands_under" "_law_stands_under" (defArgs s_l_stands_under) (defBody s_l_stands_under) (defScope s_l_stands_under) .none kV_l_stands_under dc_l_stands_under pm_l_stands_under an_l_stands_under cd_l_stands_under ct_l_stands_under), sl_l_stands_under⟩)
    (c_l_stands_under : PySem.W.codeIn K cd_l_stands_under "_law_stands_under" = true)
    (k_l_stands_under : PySem.W.keepIn K (.ref f_l_stands_under) = true)
    (a_l_refused : PySem.W.nsIn K mainGlobals "_law_refused" = some (some (.ref f_l_refused)))
    (l_l_refused : K.lookup f_l_refused = some ⟨oc_l_refused, od_l_refused, .func (PySem.W.fnOf "_law_refused" "_law_refused" (defArgs s_l_refused) (defBody s_l_refused) (defScope s_l_refused) .none kV_l_refused dc_l_refused pm_l_refused an_l_refused cd_l_refused ct_l_refused), sl_l_refused⟩)
    (c_l_refused : PySem.W.codeIn K cd_l_refused "_law_refused" = true)
    (k_l_refused : PySem.W.keepIn K (.ref f_l_refused) = true)
    (a_law : PySem.W.nsIn K mainGlobals "law" = some (some (.ref f_law)))
    (l_law : K.lookup f_law = some ⟨oc_law, od_law, .func (PySem.W.fnOf "law" "law" (defArgs s_law) (defBody s_law) (defScope s_law) .none kV_law dc_law pm_law an_law cd_law ct_law), sl_law⟩)
    (c_law : PySem.W.codeIn K cd_law "law" = true)
    (k_law : PySem.W.keepIn K (.ref f_law) = true)
    : ∃ t, Txt K mg t :=
  ⟨{ C_House := C_House, C_HouseError := C_HouseError, C_BadHouse := C_BadHouse, C_BadWord := C_BadWord, C_NoRoom := C_NoRoom, f_check_doors := f_check_doors, fd_check_doors := PySem.W.fnOf "check_doors" "check_doors" (defArgs s_check_doors) (defBody s_check_doors) (defScope s_check_doors) .none kV_check_doors dc_check_doors pm_check_doors an_check_doors cd_check_doors ct_check_doors, f_check_house := f_check_house, fd_check_house := PySem.W.fnOf "check_house" "check_house" (defArgs s_check_house) (defBody s_check_house) (defScope s_check_house) .none kV_check_house dc_check_house pm_check_house an_check_house cd_check_house ct_check_house, f_House_init := f_House_init, fd_House_init := PySem.W.fnOf "__init__" "House.__init__" (defArgs s_House_init) (defBody s_House_init) (defScope s_House_init) .none kV_House_init dc_House_init pm_House_init an_House_init cd_House_init ct_House_init, f_House_rooms := f_House_rooms, fd_House_rooms := PySem.W.fnOf "rooms" "House.rooms" (defArgs s_House_rooms) (defBody s_House_rooms) (defScope s_House_rooms) .none kV_House_rooms dc_House_rooms pm_House_rooms an_House_rooms cd_House_rooms ct_House_rooms, f_leader := f_leader, fd_leader := PySem.W.fnOf "leader" "leader" (defArgs s_leader) (defBody s_leader) (defScope s_leader) .none kV_leader dc_leader pm_leader an_leader cd_leader ct_leader, f_newly_linked := f_newly_linked, fd_newly_linked := PySem.W.fnOf "newly_linked" "newly_linked" (defArgs s_newly_linked) (defBody s_newly_linked) (defScope s_newly_linked) .none kV_newly_linked dc_newly_linked pm_newly_linked an_newly_linked cd_newly_linked ct_newly_linked, f_pairs_behind := f_pairs_behind, fd_pairs_behind := PySem.W.fnOf "pairs_behind" "pairs_behind" (defArgs s_pairs_behind) (defBody s_pairs_behind) (defScope s_pairs_behind) .none kV_pairs_behind dc_pairs_behind pm_pairs_behind an_pairs_behind cd_pairs_behind ct_pairs_behind, f_parting_word := f_parting_word, fd_parting_word := PySem.W.fnOf "parting_word" "parting_word" (defArgs s_parting_word) (defBody s_parting_word) (defScope s_parting_word) .none kV_parting_word dc_parting_word pm_parting_word an_parting_word cd_parting_word ct_parting_word, f_check_room := f_check_room, fd_check_room := PySem.W.fnOf "check_room" "check_room" (defArgs s_check_room) (defBody s_check_room) (defScope s_check_room) .none kV_check_room dc_check_room pm_check_room an_check_room cd_check_room ct_check_room, f_apart := f_apart, fd_apart := PySem.W.fnOf "apart" "apart" (defArgs s_apart) (defBody s_apart) (defScope s_apart) .none kV_apart dc_apart pm_apart an_apart cd_apart ct_apart, f_l_cell_at := f_l_cell_at, fd_l_cell_at := PySem.W.fnOf "_law_cell_at" "_law_cell_at" (defArgs s_l_cell_at) (defBody s_l_cell_at) (defScope s_l_cell_at) .none kV_l_cell_at dc_l_cell_at pm_l_cell_at an_l_cell_at cd_l_cell_at ct_l_cell_at, f_l_draw := f_l_draw, fd_l_draw := PySem.W.fnOf "_law_draw" "_law_draw" (defArgs s_l_draw) (defBody s_l_draw) (defScope s_l_draw) .none kV_l_draw dc_l_draw pm_l_draw an_l_draw cd_l_draw ct_l_draw, f_l_ways_by := f_l_ways_by, fd_l_ways_by := PySem.W.fnOf "_law_ways_by" "_law_ways_by" (defArgs s_l_ways_by) (defBody s_l_ways_by) (defScope s_l_ways_by) .none kV_l_ways_by dc_l_ways_by pm_l_ways_by an_l_ways_by cd_l_ways_by ct_l_ways_by, f_l_lamps_by := f_l_lamps_by, fd_l_lamps_by := PySem.W.fnOf "_law_lamps_by" "_law_lamps_by" (defArgs s_l_lamps_by) (defBody s_l_lamps_by) (defScope s_l_lamps_by) .none kV_l_lamps_by dc_l_lamps_by pm_l_lamps_by an_l_lamps_by cd_l_lamps_by ct_l_lamps_by, f_l_walk := f_l_walk, fd_l_walk := PySem.W.fnOf "_law_walk" "_law_walk" (defArgs s_l_walk) (defBody s_l_walk) (defScope s_l_walk) .none kV_l_walk dc_l_walk pm_l_walk an_l_walk cd_l_walk ct_l_walk, f_l_whole := f_l_whole, fd_l_whole := PySem.W.fnOf "_law_whole" "_law_whole" (defArgs s_l_whole) (defBody s_l_whole) (defScope s_l_whole) .none kV_l_whole dc_l_whole pm_l_whole an_l_whole cd_l_whole ct_l_whole, f_l_is_word := f_l_is_word, fd_l_is_word := PySem.W.fnOf "_law_is_word" "_law_is_word" (defArgs s_l_is_word) (defBody s_l_is_word) (defScope s_l_is_word) .none kV_l_is_word dc_l_is_word pm_l_is_word an_l_is_word cd_l_is_word ct_l_is_word, f_l_part := f_l_part, fd_l_part := PySem.W.fnOf "_law_part" "_law_part" (defArgs s_l_part) (defBody s_l_part) (defScope s_l_part) .none kV_l_part dc_l_part pm_l_part an_l_part cd_l_part ct_l_part, f_l_stands_under := f_l_stands_under, fd_l_stands_under := PySem.W.fnOf "_law_stands_under" "_law_stands_under" (defArgs s_l_stands_under) (defBody s_l_stands_under) (defScope s_l_stands_under) .none kV_l_stands_under dc_l_stands_under pm_l_stands_under an_l_stands_under cd_l_stands_under ct_l_stands_under, f_l_refused := f_l_refused, fd_l_refused := PySem.W.fnOf "_law_refused" "_law_refused" (defArgs s_l_refused) (defBody s_l_refused) (defScope s_l_refused) .none kV_l_refused dc_l_refused pm_l_refused an_l_refused cd_l_refused ct_l_refused, f_law := f_law, fd_law := PySem.W.fnOf "law" "law" (defArgs s_law) (defBody s_law) (defScope s_law) .none kV_law dc_law pm_law an_law cd_law ct_law },
   ⟨PySem.W.mg_none_of X G z_len, PySem.W.mg_none_of X G z_range, PySem.W.mg_none_of X G z_isinstance, PySem.W.mg_none_of X G z_list, PySem.W.mg_none_of X G z_int, PySem.W.mg_none_of X G z_bool, PySem.W.mg_none_of X G z_enumerate, PySem.W.mg_none_of X G z_min, PySem.W.mg_none_of X G z_ValueError, ⟨_, PySem.W.mg_of X G c_MOST_DOORS⟩, ⟨_, PySem.W.mg_of X G c_MOST_ROOMS⟩, PySem.W.mg_of X G a_House, ⟨pg_House, hd_House, po_House, sa_House⟩, tc_House, tm_House, n_House_doors, n_House_ways, n_House_lamps, PySem.W.mg_of X G a_HouseError, ⟨⟨a_HouseError, x_HouseError⟩, g1_HouseError, g2_HouseError, g3_HouseError, g4_HouseError⟩, g4_HouseError, ty_HouseError, mv_HouseError, ms_HouseError, PySem.W.mg_of X G a_BadHouse, ⟨⟨a_BadHouse, x_BadHouse⟩, g1_BadHouse, g2_BadHouse, g3_BadHouse, g4_BadHouse⟩, g4_BadHouse, ty_BadHouse, mv_BadHouse, ms_BadHouse, PySem.W.mg_of X G a_BadWord, ⟨⟨a_BadWord, x_BadWord⟩, g1_BadWord, g2_BadWord, g3_BadWord, g4_BadWord⟩, g4_BadWord, ty_BadWord, mv_BadWord, ms_BadWord, PySem.W.mg_of X G a_NoRoom, ⟨⟨a_NoRoom, x_NoRoom⟩, g1_NoRoom, g2_NoRoom, g3_NoRoom, g4_NoRoom⟩, g4_NoRoom, ty_NoRoom, mv_NoRoom, ms_NoRoom, mr_HouseError_NoRoom, mr_NoRoom_HouseError, mr_NoRoom_BadHouse, mr_NoRoom_BadWord, tg, tt, PySem.W.mg_of X G a_check_doors, fun_mk (st := s_check_doors) l_check_doors c_check_doors k_check_doors, PySem.W.mg_of X G a_check_house, fun_mk (st := s_check_house) l_check_house c_check_house k_check_house, fun_mk (st := s_House_init) l_House_init c_House_init k_House_init, ⟨mk_House, a_House_init, i_House_init, kc_House⟩, fun_mk (st := s_House_rooms) l_House_rooms c_House_rooms k_House_rooms, ⟨a_House_rooms, i_House_rooms, k_House_rooms⟩, PySem.W.mg_of X G a_leader, fun_mk (st := s_leader) l_leader c_leader k_leader, PySem.W.mg_of X G a_newly_linked, fun_mk (st := s_newly_linked) l_newly_linked c_newly_linked k_newly_linked, PySem.W.mg_of X G a_pairs_behind, fun_mk (st := s_pairs_behind) l_pairs_behind c_pairs_behind k_pairs_behind, PySem.W.mg_of X G a_parting_word, fun_mk (st := s_parting_word) l_parting_word c_parting_word k_parting_word, PySem.W.mg_of X G a_check_room, fun_mk (st := s_check_room) l_check_room c_check_room k_check_room, PySem.W.mg_of X G a_apart, fun_mk (st := s_apart) l_apart c_apart k_apart, PySem.W.mg_of X G a_l_cell_at, fun_mk (st := s_l_cell_at) l_l_cell_at c_l_cell_at k_l_cell_at, PySem.W.mg_of X G a_l_draw, fun_mk (st := s_l_draw) l_l_draw c_l_draw k_l_draw, PySem.W.mg_of X G a_l_ways_by, fun_mk (st := s_l_ways_by) l_l_ways_by c_l_ways_by k_l_ways_by, PySem.W.mg_of X G a_l_lamps_by, fun_mk (st := s_l_lamps_by) l_l_lamps_by c_l_lamps_by k_l_lamps_by, PySem.W.mg_of X G a_l_walk, fun_mk (st := s_l_walk) l_l_walk c_l_walk k_l_walk, PySem.W.mg_of X G a_l_whole, fun_mk (st := s_l_whole) l_l_whole c_l_whole k_l_whole, PySem.W.mg_of X G a_l_is_word, fun_mk (st := s_l_is_word) l_l_is_word c_l_is_word k_l_is_word, PySem.W.mg_of X G a_l_part, fun_mk (st := s_l_part) l_l_part c_l_part k_l_part, PySem.W.mg_of X G a_l_stands_under, fun_mk (st := s_l_stands_under) l_l_stands_under c_l_stands_under k_l_stands_under, PySem.W.mg_of X G a_l_refused, fun_mk (st := s_l_refused) l_l_refused c_l_refused k_l_refused, PySem.W.mg_of X G a_law, fun_mk (st := s_law) l_law c_law k_law⟩⟩
end My
open PySem PySem.W PyProof.Rows
set_option maxRecDepth 100000 in
set_option maxHeartbeats 0 in
theorem PySem.Challenge.cw_askhouse_k06_rooms_apart_holds : PySem.Challenge.rw_askhouse_k06_rooms_apart.Holds := by
  w_on; o_law; k_head; (case hw => w_witness2)
  k_fill
  refine L2.walk_ofK (l := PySem.Challenge.rw_askhouse_k06_rooms_apart) (n := 63) (k := 7) (x := "script") (CX := L2.CX0) (sp := fun K => My.sp_law K) rfl (by decide) rfl ⟨rfl, by decide, by decide⟩ (fun w h Y => PySem.W.kIn_of Y) ?F ?S ?C
  case F =>
    intro w mg fa h KX G hmg
    have T : ∃ t, My.Txt (L2.KOf KX) mg t := by
      dsimp only [L2.KOf]
      refine' My.txt_mk KX G ?z_len ?z_range ?z_isinstance ?z_list ?z_int ?z_bool ?z_enumerate ?z_min ?z_ValueError ?c_MOST_DOORS ?c_MOST_ROOMS ?a_House ?pg_House ?hd_House ?po_House ?sa_House ?mk_House ?kc_House ?tc_House ?tm_House ?n_House_doors ?n_House_ways ?n_House_lamps ?a_HouseError ?x_HouseError ?g1_HouseError ?g2_HouseError ?g3_HouseError ?g4_HouseError ?ty_HouseError ?mv_HouseError ?ms_HouseError ?a_BadHouse ?x_BadHouse ?g1_BadHouse ?g2_BadHouse ?g3_BadHouse ?g4_BadHouse ?ty_BadHouse ?mv_BadHouse ?ms_BadHouse ?a_BadWord ?x_BadWord ?g1_BadWord ?g2_BadWord ?g3_BadWord ?g4_BadWord ?ty_BadWord ?mv_BadWord ?ms_BadWord ?a_NoRoom ?x_NoRoom ?g1_NoRoom ?g2_NoRoom ?g3_NoRoom ?g4_NoRoom ?ty_NoRoom ?mv_NoRoom ?ms_NoRoom ?mr_HouseError_NoRoom ?mr_NoRoom_HouseError ?mr_NoRoom_BadHouse ?mr_NoRoom_BadWord ?tg ?tt ?a_check_doors ?l_check_doors ?c_check_doors ?k_check_doors ?a_check_house ?l_check_house ?c_check_house ?k_check_house ?a_House_init ?i_House_init ?l_House_init ?c_House_init ?k_House_init ?a_House_rooms ?i_House_rooms ?l_House_rooms ?c_House_rooms ?k_House_rooms ?a_leader ?l_leader ?c_leader ?k_leader ?a_newly_linked ?l_newly_linked ?c_newly_linked ?k_newly_linked ?a_pairs_behind ?l_pairs_behind ?c_pairs_behind ?k_pairs_behind ?a_parting_word ?l_parting_word ?c_parting_word ?k_parting_word ?a_check_room ?l_check_room ?c_check_room ?k_check_room ?a_apart ?l_apart ?c_apart ?k_apart ?a_l_cell_at ?l_l_cell_at ?c_l_cell_at ?k_l_cell_at ?a_l_draw ?l_l_draw ?c_l_draw ?k_l_draw ?a_l_ways_by ?l_l_ways_by ?c_l_ways_by ?k_l_ways_by ?a_l_lamps_by ?l_l_lamps_by ?c_l_lamps_by ?k_l_lamps_by ?a_l_walk ?l_l_walk ?c_l_walk ?k_l_walk ?a_l_whole ?l_l_whole ?c_l_whole ?k_l_whole ?a_l_is_word ?l_l_is_word ?c_l_is_word ?k_l_is_word ?a_l_part ?l_l_part ?c_l_part ?k_l_part ?a_l_stands_under ?l_l_stands_under ?c_l_stands_under ?k_l_stands_under ?a_l_refused ?l_l_refused ?c_l_refused ?k_l_refused ?a_law ?l_law ?c_law ?k_law
      (case z_len => k_is)
      (case z_range => k_is)
      (case z_isinstance => k_is)
      (case z_list => k_is)
      (case z_int => k_is)
      (case z_bool => k_is)
      (case z_enumerate => k_is)
      (case z_min => k_is)
      (case z_ValueError => k_is)
      (case c_MOST_DOORS => k_is)
      (case c_MOST_ROOMS => k_is)
      (case a_House => k_is)
      (case pg_House => k_is)
      (case hd_House => k_is)
      (case po_House => k_is)
      (case sa_House => k_is)
      (case mk_House => k_is)
      (case kc_House => k_is)
      (case tc_House => k_is)
      (case tm_House => k_is)
      (case n_House_doors => k_is)
      (case n_House_ways => k_is)
      (case n_House_lamps => k_is)
      (case a_HouseError => k_is)
      (case x_HouseError => k_exc)
      (case g1_HouseError => k_is)
      (case g2_HouseError => k_is)
      (case g3_HouseError => k_is)
      (case g4_HouseError => k_is)
      (case ty_HouseError => k_is)
      (case mv_HouseError => k_is)
      (case ms_HouseError => k_is)
      (case a_BadHouse => k_is)
      (case x_BadHouse => k_exc)
      (case g1_BadHouse => k_is)
      (case g2_BadHouse => k_is)
      (case g3_BadHouse => k_is)
      (case g4_BadHouse => k_is)
      (case ty_BadHouse => k_is)
      (case mv_BadHouse => k_is)
      (case ms_BadHouse => k_is)
      (case a_BadWord => k_is)
      (case x_BadWord => k_exc)
      (case g1_BadWord => k_is)
      (case g2_BadWord => k_is)
      (case g3_BadWord => k_is)
      (case g4_BadWord => k_is)
      (case ty_BadWord => k_is)
      (case mv_BadWord => k_is)
      (case ms_BadWord => k_is)
      (case a_NoRoom => k_is)
      (case x_NoRoom => k_exc)
      (case g1_NoRoom => k_is)
      (case g2_NoRoom => k_is)
      (case g3_NoRoom => k_is)
      (case g4_NoRoom => k_is)
      (case ty_NoRoom => k_is)
      (case mv_NoRoom => k_is)
      (case ms_NoRoom => k_is)
      (case mr_HouseError_NoRoom => k_is)
      (case mr_NoRoom_HouseError => k_is)
      (case mr_NoRoom_BadHouse => k_is)
      (case mr_NoRoom_BadWord => k_is)
      (case tg => k_is)
      (case tt => k_is)
      (case a_check_doors => k_is)
      (case l_check_doors => k_is)
      (case c_check_doors => k_is)
      (case k_check_doors => k_is)
      (case a_check_house => k_is)
      (case l_check_house => k_is)
      (case c_check_house => k_is)
      (case k_check_house => k_is)
      (case a_House_init => k_is)
      (case i_House_init => k_is)
      (case l_House_init => k_is)
      (case c_House_init => k_is)
      (case k_House_init => k_is)
      (case a_House_rooms => k_is)
      (case i_House_rooms => k_is)
      (case l_House_rooms => k_is)
      (case c_House_rooms => k_is)
      (case k_House_rooms => k_is)
      (case a_leader => k_is)
      (case l_leader => k_is)
      (case c_leader => k_is)
      (case k_leader => k_is)
      (case a_newly_linked => k_is)
      (case l_newly_linked => k_is)
      (case c_newly_linked => k_is)
      (case k_newly_linked => k_is)
      (case a_pairs_behind => k_is)
      (case l_pairs_behind => k_is)
      (case c_pairs_behind => k_is)
      (case k_pairs_behind => k_is)
      (case a_parting_word => k_is)
      (case l_parting_word => k_is)
      (case c_parting_word => k_is)
      (case k_parting_word => k_is)
      (case a_check_room => k_is)
      (case l_check_room => k_is)
      (case c_check_room => k_is)
      (case k_check_room => k_is)
      (case a_apart => k_is)
      (case l_apart => k_is)
      (case c_apart => k_is)
      (case k_apart => k_is)
      (case a_l_cell_at => k_is)
      (case l_l_cell_at => k_is)
      (case c_l_cell_at => k_is)
      (case k_l_cell_at => k_is)
      (case a_l_draw => k_is)
      (case l_l_draw => k_is)
      (case c_l_draw => k_is)
      (case k_l_draw => k_is)
      (case a_l_ways_by => k_is)
      (case l_l_ways_by => k_is)
      (case c_l_ways_by => k_is)
      (case k_l_ways_by => k_is)
      (case a_l_lamps_by => k_is)
      (case l_l_lamps_by => k_is)
      (case c_l_lamps_by => k_is)
      (case k_l_lamps_by => k_is)
      (case a_l_walk => k_is)
      (case l_l_walk => k_is)
      (case c_l_walk => k_is)
      (case k_l_walk => k_is)
      (case a_l_whole => k_is)
      (case l_l_whole => k_is)
      (case c_l_whole => k_is)
      (case k_l_whole => k_is)
      (case a_l_is_word => k_is)
      (case l_l_is_word => k_is)
      (case c_l_is_word => k_is)
      (case k_l_is_word => k_is)
      (case a_l_part => k_is)
      (case l_l_part => k_is)
      (case c_l_part => k_is)
      (case k_l_part => k_is)
      (case a_l_stands_under => k_is)
      (case l_l_stands_under => k_is)
      (case c_l_stands_under => k_is)
      (case k_l_stands_under => k_is)
      (case a_l_refused => k_is)
      (case l_l_refused => k_is)
      (case c_l_refused => k_is)
      (case k_l_refused => k_is)
      (case a_law => k_is)
      (case l_law => k_is)
      (case c_law => k_is)
      (case k_law => k_is)
    obtain ⟨t, T⟩ := T
    have e0 := hmg.symm.trans T.mg_law
    cases e0
    refine' ⟨t.fd_law, ?b, fun base kb nb => My.ok_law T⟩
    obtain ⟨oc, od, kV, doc, pm, an, cdv, ct, osl, e, _, _⟩ := T.F_law.ex
    rw [e]
    exact fun s u => .of_eq rfl
  case S => exact fun K H a ns hl hO hS => ⟨a, ns, rfl, hS, hl, fun _ => rfl⟩
  case C => exact fun _ _ _ _ h => h
#print axioms PySem.Challenge.cw_askhouse_k06_rooms_apart_holds
