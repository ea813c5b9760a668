import PyProof.Rows.All
import Wide.All
import OpenK.AllK
import Wide.FinOn
import Lean
import PyProof.EqAt
import PyProof.EqKinds
import PyProof.TupleCall
import PyProof.Draws
import PySem.Challenge.RW_askhouse_k08_whole_fewest_rooms
set_option Elab.async false
set_option linter.all false
set_option maxRecDepth 100000
/-! THE HAND LAYER, for ints, bools, texts, own classes, LISTS and tuples (index, slices, in, append, pop ..), calls, loops. Paste it whole ahead of your own text; what your proof does not reach may be deleted. -/
namespace L2
open PySem PySem.Spec PyProof.Rows

/-- a key: an int or a str -/
abbrev Key := Sum Int Str
def keyIs : Key → Value → Bool
  | .inl k, v => Value.isInt k v
  | .inr x, v => Value.isStrOf x v
def keyH (w : World) : Key → Int
  | .inl k => hashInt k
  | .inr x => hashStr w x
theorem keyIs_shape : ∀ {k : Key} {v : Value}, keyIs k v = true → (∃ i t, k = Sum.inl i ∧ v = Value.int i t) ∨ (∃ x t, k = Sum.inr x ∧ v = Value.str x t)
  | .inl i, v, h => by
    obtain ⟨t, e⟩ := Value.isInt_shape (k := i) (v := v) h
    exact .inl ⟨i, t, rfl, e⟩
  | .inr x, v, h => by
    obtain ⟨t, e⟩ := Value.isStrOf_shape (x := x) (v := v) h
    exact .inr ⟨x, t, rfl, e⟩
theorem keyIs_int (i : Int) (t : Tok) : keyIs (.inl i) (.int i t) = true := by simp [keyIs, Value.isInt]
theorem keyIs_str (x : Str) (t : Tok) : keyIs (.inr x) (.str x t) = true := by simp [keyIs, Value.isStrOf]
theorem key_ll (a b : Int) : decide ((Sum.inl a : Key) = Sum.inl b) = (a == b) := by
  by_cases e : a = b
  · subst e; simp
  · have h : ¬ (Sum.inl a : Key) = Sum.inl b := fun q => e (Sum.inl.inj q)
    rw [decide_eq_false h]
    exact (beq_eq_false_iff_ne.mpr e).symm
theorem key_rr (a b : Str) : decide ((Sum.inr a : Key) = Sum.inr b) = decide (a = b) := by
  by_cases e : a = b
  · subst e; simp
  · have h : ¬ (Sum.inr a : Key) = Sum.inr b := fun q => e (Sum.inr.inj q)
    rw [decide_eq_false h, decide_eq_false e]
theorem key_lr (a : Int) (b : Str) : decide ((Sum.inl a : Key) = Sum.inr b) = false := decide_eq_false (fun q => nomatch q)
theorem key_rl (a : Str) (b : Int) : decide ((Sum.inr a : Key) = Sum.inl b) = false := decide_eq_false (fun q => nomatch q)

def mixKind (prog : Program) (w : World) : PySem.KeyKind prog w Key where
  is := keyIs
  hash := keyH w
  inj := fun v a b ha hb => by
    rcases keyIs_shape ha with ⟨i, t, rfl, rfl⟩ | ⟨x, t, rfl, rfl⟩
    · rcases keyIs_shape hb with ⟨j, u, rfl, e⟩ | ⟨y, u, rfl, e⟩
      · injection e with e1 _; rw [e1]
      · exact nomatch e
    · rcases keyIs_shape hb with ⟨j, u, rfl, e⟩ | ⟨y, u, rfl, e⟩
      · exact nomatch e
      · injection e with e1 _; rw [e1]
  byValue := fun k v h => by
    rcases keyIs_shape h with ⟨i, t, rfl, rfl⟩ | ⟨x, t, rfl, rfl⟩ <;> rfl
  pyHash := fun hv h => by
    rcases keyIs_shape hv with ⟨i, t, rfl, rfl⟩ | ⟨x, t, rfl, rfl⟩
    · exact wpAny_pyHash_int h
    · exact wpAny_pyHash_str h
  eqBool := fun hu hv h => by
    rcases keyIs_shape hu with ⟨i, t, rfl, rfl⟩ | ⟨x, t, rfl, rfl⟩
    · rcases keyIs_shape hv with ⟨j, u, rfl, rfl⟩ | ⟨y, u, rfl, rfl⟩
      · rw [key_ll] at h; exact wpAny_eqBool_int h
      · rw [key_lr] at h; exact SeqAt.EqAt.int_str i t y u _ _ _ _ h
    · rcases keyIs_shape hv with ⟨j, u, rfl, rfl⟩ | ⟨y, u, rfl, rfl⟩
      · rw [key_rl] at h; exact SeqAt.EqAt.str_int x t j u _ _ _ _ h
      · rw [key_rr] at h; exact wpAny_eqBool_str h
  «strs» := fun k x t v h => by
    rcases keyIs_shape h with ⟨i, u, rfl, e⟩ | ⟨y, u, rfl, e⟩
    · exact nomatch e
    · injection e with e1 _
      subst e1
      cases v <;> rfl

theorem mixKind_int (prog : Program) (w : World) (i : Int) (t : Tok) : (mixKind prog w).is (.inl i) (.int i t) = true := keyIs_int i t
theorem mixKind_str (prog : Program) (w : World) (x : Str) (t : Tok) : (mixKind prog w).is (.inr x) (.str x t) = true := keyIs_str x t
end L2

namespace L2
open PySem PySem.Spec PyProof.Rows

/-- a value, without the heap -/
inductive V where
  | non | bl (b : Bool) | int (i : Int) | str (x : Str) | byt (b : Array UInt8) | flt (b : UInt64) | ref (a : Addr) | ty (n : String)
  deriving DecidableEq

def RelV : V → Value → Prop
  | .non, u => u = Value.none
  | .bl b, u => u = Value.bool b
  | .int i, u => ∃ t, u = Value.int i t
  | .str x, u => ∃ t, u = Value.str x t
  | .byt b, u => ∃ t, u = Value.bytes b t
  | .flt b, u => ∃ t, u = Value.float b t
  | .ref a, u => u = Value.ref a
  | .ty n, u => u = Value.type n

abbrev Vals : List V → List Value → Prop := Paired RelV
theorem Vals.length {xs : List V} {us : List Value} (r : Vals xs us) : xs.length = us.length := Paired.length r
theorem Vals.get : ∀ {xs : List V} {us : List Value} {i : Nat} {x : V}, Vals xs us → xs[i]? = some x → ∃ u, us[i]? = some u ∧ RelV x u
  | _, _, _, _, .nil, e => by simp at e
  | _, _, 0, _, .cons r _, e => by simp at e; subst e; exact ⟨_, rfl, r⟩
  | _, _, i + 1, x, .cons _ t, e => by
    obtain ⟨u, h1, h2⟩ := Vals.get (i := i) (x := x) t (by simpa using e)
    exact ⟨u, by simpa using h1, h2⟩
theorem Vals.set {x : V} {u : Value} (r : RelV x u) : ∀ {xs : List V} {us : List Value} (i : Nat), Vals xs us → Vals (xs.set i x) (us.set i u)
  | _, _, _, .nil => .nil
  | _, _, 0, .cons _ t => .cons r t
  | _, _, i + 1, .cons q t => .cons q (Vals.set r i t)
theorem Vals.append : ∀ {xs ys : List V} {us ws : List Value}, Vals xs us → Vals ys ws → Vals (xs ++ ys) (us ++ ws)
  | _, _, _, _, .nil, s => s
  | _, _, _, _, .cons r t, s => .cons r (Vals.append t s)
def RelO : Option V → Option Value → Prop
  | some v, some u => RelV v u
  | none, none => True
  | _, _ => False
def KV {κ : Type} : List (κ × V) → List (κ × Value) → Prop := Paired fun (p : κ × V) (q : κ × Value) => p.1 = q.1 ∧ RelV p.2 q.2

/-- a key of a dict (00_mix): an int or a text -/
def kV : Key → V
  | .inl i => .int i
  | .inr x => .str x

/-- what stands at a tracked address -/
inductive HO where
  /-- a list -/
  | lst (xs : List V)
  /-- a tuple (never changes) -/
  | tup (xs : List V)
  /-- a dict whose keys are ints and texts; one whose keys are tuples of ints and texts (the empty one is both) -/
  | dK (kvs : List (Key × V)) | dT (kvs : List (List Key × V))
  /-- a set of ints: its members, its size -/
  | set (S : Int → Bool) (n : Nat)
  /-- an instance of the class at C, its dict at dx, its attributes -/
  | ins (C dx : Addr) (fs : List (Str × V))
  /-- the dict of the instance at x -/
  | own (x : Addr)
  /-- the dict of an exception -/
  | xd (fs : List (Str × V))
  /-- a bound method, f of x -/
  | met (f x : Addr)
  /-- a range object lo, lo + 1, .. below hi -/
  | rng (lo hi : Int)
  /-- a thing that is known to the object (the script; a dict while a loop walks it): read, never written while it is so -/
  | frz (o : Obj) (u : HO)
  /-- a code object's table -/
  | tbl (ps : Array Value)
  /-- any other thing, by what is true of its one object (a def of one's own: SetO a S n := HO.ext fun h => ..) -/
  | ext (φ : Heap → Prop)

abbrev Hp := Addr → Option HO
def upd (H : Hp) (a : Addr) (o : HO) : Hp := fun b => if b = a then some o else H b
theorem upd_same {H : Hp} {a : Addr} {o : HO} : upd H a o a = some o := by unfold upd; rw [if_pos rfl]
theorem upd_ne {H : Hp} {a b : Addr} {o : HO} (h : b ≠ a) : upd H a o b = H b := by unfold upd; rw [if_neg h]
theorem upd_upd {H : Hp} {a : Addr} {o u : HO} : upd (upd H a o) a u = upd H a u := by
  funext b; unfold upd; split <;> rfl
/-- two objects of different content stand apart -/
theorem ne_of {H : Hp} {a b : Addr} {o u : HO} (h : H a = some o) (h' : H b = some u) (d : o ≠ u) : a ≠ b := by
  intro e; subst e; rw [h] at h'; exact d (Option.some.inj h')
theorem ne_of_none {H : Hp} {a b : Addr} {o : HO} (h : H a = some o) (h' : H b = none) : a ≠ b := by
  intro e; subst e; rw [h] at h'; cases h'

section
variable (P : Program) (w : World)
def ObjOk (H : Hp) (h : Heap) (a : Addr) : HO → Prop
  | .lst xs => xs.length ≤ sizeLine ∧ ∃ (its : List Value) (n : Nat), Vals xs its ∧ h.get? a = some { cls := .type "list", data := .seq its.toArray n }
  | .tup xs => xs.length ≤ sizeLine ∧ ∃ its : List Value, Vals xs its ∧ IsTup h a its.toArray
  | .dK kvs => kvs.length ≤ sizeLine ∧ (a == sysModules) = false ∧ ∃ vs, KV kvs vs ∧ h.DictOf (mixKind P w) a vs
  | .dT kvs => kvs.length ≤ sizeLine ∧ (a == sysModules) = false ∧ ∃ xs : List (List Key × Addr × Value),
      Paired (fun (p : List Key × V) (q : List Key × Addr × Value) => p.1 = q.1 ∧ H q.2.1 = some (.tup (p.1.map kV)) ∧ RelV p.2 q.2.2) kvs xs ∧
      ∃ o es ep, h.get? a = some o ∧ o.ExactDict ∧ o.data = .dict es ep ∧ es.toList = xs.map (entryOfKey (tupleKind (mixKind P w))) ∧ (xs.map (·.1)).Nodup
  | .set S n => h.SetOf (intKind P w) a S n
  | .ins C dx fs => H dx = some (.own a) ∧ fs.length ≤ 1000 ∧ dx ≠ a ∧ h.get? a = some (PySem.W.instObj C dx) ∧
      ∃ mA, h.Ns1 dx mA ∧ (∀ f, RelO (fs.lookup f) (mA f)) ∧ PySem.Within mA (fs.map (·.1))
  | .own _ => ∃ o, h.get? a = some o
  | .xd fs => ∃ mA, h.Ns1 a mA ∧ ∀ f, RelO (fs.lookup f) (mA f)
  | .rng lo hi => ∃ t u v, h.get? a = some { cls := .type "range", data := .fields #[.int lo t, .int hi u, .int 1 v] }
  | .frz o u => h.get? a = some o ∧ ObjOk H h a u
  | .tbl ps => h.get? a = some { cls := .none, data := .fields ps }
  | .met f x => h.get? a = some (PySem.W.methodObj (.ref f) (.ref x))
  | .ext φ => φ h ∧ (∃ o, h.get? a = some o) ∧ ∀ h1 h2 : Heap, φ h1 → (∀ o, h1.get? a = some o → h2.get? a = some o) → φ h2
/-- the abstract heap is held -/
def HOk (H : Hp) (h : Heap) : Prop := ∀ a o, H a = some o → ObjOk P w H h a o
end

section
variable {P : Program} {w : World} {H H' : Hp} {h h' : Heap} {a : Addr} {o : HO}
theorem ObjOk.lt (x : ObjOk P w H h a o) : a < h.objs.size := by
  cases o with
  | lst xs => obtain ⟨_, _, _, _, e⟩ := x; exact Heap.lt_size e
  | tup xs => obtain ⟨_, _, _, p⟩ := x; exact p.lt
  | dK kvs => obtain ⟨_, _, _, _, o, _, _, e, _⟩ := x; exact Heap.lt_size e
  | dT kvs => obtain ⟨_, _, _, _, o, _, _, e, _⟩ := x; exact Heap.lt_size e
  | set S n => obtain ⟨o, _, _, _, e, _⟩ := x; exact Heap.lt_size e
  | ins C dx fs => obtain ⟨_, _, _, e, _⟩ := x; exact Heap.lt_size e
  | own y => obtain ⟨_, e⟩ := x; exact Heap.lt_size e
  | xd fs => obtain ⟨_, ⟨_, _, _, e, _⟩, _⟩ := x; exact Heap.lt_size e
  | rng lo hi => obtain ⟨_, _, _, e⟩ := x; exact Heap.lt_size e
  | frz ob u => obtain ⟨e, _⟩ := x; exact Heap.lt_size e
  | tbl ps => exact Heap.lt_size (show h.get? a = some _ from x)
  | met f y => exact Heap.lt_size (show h.get? a = some _ from x)
  | ext φ => obtain ⟨_, ⟨_, e⟩, _⟩ := x; exact Heap.lt_size e
theorem Paired.mapP {α β : Type} {F G : α → β → Prop} : ∀ {l₁ : List α} {l₂ : List β}, Paired F l₁ l₂ → (∀ a b, F a b → G a b) → Paired G l₁ l₂
  | _, _, .nil, _ => .nil
  | _, _, .cons r t, f => .cons (f _ _ r) (Paired.mapP t f)
/-- what an object's description leans on: its own object, its own dict, the tuples -/
theorem ObjOk.stay (x : ObjOk P w H h a o) (k : ∀ b u, (b = a ∨ H b = some (.own a)) → h.get? b = some u → h'.get? b = some u)
    (ho : ∀ b, H b = some (.own a) → H' b = some (.own a)) (ht : ∀ b xs, H b = some (.tup xs) → H' b = some (.tup xs)) : ObjOk P w H' h' a o := by
  induction o with
  | lst xs => obtain ⟨z, its, n, r, e⟩ := x; exact ⟨z, its, n, r, k _ _ (.inl rfl) e⟩
  | tup xs => obtain ⟨z, its, r, ob, e, c⟩ := x; exact ⟨z, its, r, ob, k _ _ (.inl rfl) e, c⟩
  | dK kvs => obtain ⟨z, y, vs, r, ob, es, ep, e, c⟩ := x; exact ⟨z, y, vs, r, ob, es, ep, k _ _ (.inl rfl) e, c⟩
  | dT kvs =>
    obtain ⟨z, y, xs, r, ob, es, ep, e, c⟩ := x
    exact ⟨z, y, xs, Paired.mapP r fun p q z => ⟨z.1, ht _ _ z.2.1, z.2.2⟩, ob, es, ep, k _ _ (.inl rfl) e, c⟩
  | set S n => obtain ⟨ob, es, ep, t, e, c⟩ := x; exact ⟨ob, es, ep, t, k _ _ (.inl rfl) e, c⟩
  | ins C dx fs =>
    obtain ⟨d, z, ne, e, mA, ⟨od, es, ep, e2, c⟩, r⟩ := x
    exact ⟨ho _ d, z, ne, k _ _ (.inl rfl) e, mA, ⟨od, es, ep, k _ _ (.inr d) e2, c⟩, r⟩
  | own y => obtain ⟨ob, e⟩ := x; exact ⟨ob, k _ _ (.inl rfl) e⟩
  | xd fs => obtain ⟨mA, ⟨od, es, ep, e, c⟩, r⟩ := x; exact ⟨mA, ⟨od, es, ep, k _ _ (.inl rfl) e, c⟩, r⟩
  | rng lo hi => obtain ⟨t, u, v, e⟩ := x; exact ⟨t, u, v, k _ _ (.inl rfl) e⟩
  | frz ob u ih => obtain ⟨e, q⟩ := x; exact ⟨k _ _ (.inl rfl) e, ih q⟩
  | tbl ps =>
    have e : h.get? a = some { cls := .none, data := .fields ps } := x
    show h'.get? a = some { cls := .none, data := .fields ps }
    exact k a _ (.inl rfl) e
  | met f y =>
    have e : h.get? a = some (PySem.W.methodObj (.ref f) (.ref y)) := x
    show h'.get? a = some (PySem.W.methodObj (.ref f) (.ref y))
    exact k a _ (.inl rfl) e
  | ext φ => obtain ⟨p, ⟨o, e⟩, st⟩ := x; exact ⟨st _ _ p fun o q => k _ _ (.inl rfl) q, ⟨o, k _ _ (.inl rfl) e⟩, st⟩
theorem HOk.lt (x : HOk P w H h) (e : H a = some o) : a < h.objs.size := (x a o e).lt
theorem HOk.fresh (x : HOk P w H h) (e : h.objs.size ≤ a) : H a = none := by
  cases q : H a with
  | none => rfl
  | some u => exact absurd (Nat.lt_of_lt_of_le (x.lt q) e) (Nat.lt_irrefl _)
/-- every object of the heap is kept -/
theorem HOk.kept (x : HOk P w H h) (k : ∀ b u, h.get? b = some u → h'.get? b = some u) : HOk P w H h' := fun a o e =>
  (x a o e).stay (fun b u _ q => k b u q) (fun _ q => q) fun _ _ q => q
/-- a new object is laid and tracked -/
theorem HOk.laid (x : HOk P w H h) (k : ∀ b u, h.get? b = some u → h'.get? b = some u) (hp : h.objs.size ≤ a) (new : ObjOk P w (upd H a o) h' a o) : HOk P w (upd H a o) h' := fun b u e => by
  have hn := x.fresh hp
  by_cases hb : b = a
  · subst hb; rw [upd_same] at e; cases e; exact new
  · rw [upd_ne hb] at e
    exact (x b u e).stay (fun c v _ q => k c v q) (fun c q => by rw [upd_ne (ne_of_none q hn)]; exact q) fun c xs q => by rw [upd_ne (ne_of_none q hn)]; exact q
end

/-- what may be read as u: it is u, or a known u -/
def Rd (H : Hp) (a : Addr) (u : HO) : Prop := H a = some u ∨ ∃ o, H a = some (.frz o u)
theorem Rd.ok {P : Program} {w : World} {H : Hp} {h : Heap} {a : Addr} {u : HO} (r : Rd H a u) (x : HOk P w H h) : ObjOk P w H h a u := by
  rcases r with r | ⟨o, r⟩
  · exact x a u r
  · obtain ⟨_, q⟩ := x a _ r
    exact q
/-- what may be written -/
def Mut : Option HO → Prop
  | some (.lst _) => True
  | some (.dK _) => True
  | some (.dT _) => True
  | some (.set _ _) => True
  | some (.ins _ _ _) => True
  | some (.ext _) => True
  | _ => False
section
variable {P : Program} {w : World} {H : Hp} {h h' : Heap} {x e : Addr} {o' : HO}
/-- the object at e is changed: x itself, or the dict of the instance x -/
theorem HOk.write (ok : HOk P w H h) (mu : Mut (H x)) (he : e = x ∨ H e = some (.own x)) (k : ∀ b u, b ≠ e → h.get? b = some u → h'.get? b = some u) (heo : ∃ u, h'.get? e = some u)
    (new : ObjOk P w (upd H x o') h' x o') : HOk P w (upd H x o') h' := fun b u q => by
  have nown : ∀ c y, H c = some (.own y) → c ≠ x := fun c y r z => by subst z; rw [r] at mu; exact mu
  have ntup : ∀ c xs, H c = some (.tup xs) → c ≠ x := fun c xs r z => by subst z; rw [r] at mu; exact mu
  by_cases hb : b = x
  · subst hb; rw [upd_same] at q; cases q; exact new
  · rw [upd_ne hb] at q
    by_cases hbe : b = e
    · have q' : H b = some (.own x) := by
        rcases he with z | z
        · exact absurd (hbe.trans z) hb
        · rw [hbe]; exact z
      rw [q] at q'; cases q'
      obtain ⟨v, hv⟩ := heo
      exact ⟨v, by rw [hbe]; exact hv⟩
    · refine (ok b u q).stay (fun c v hc r => k c v ?_ r) (fun c r => by rw [upd_ne (nown c b r)]; exact r) fun c xs r => by rw [upd_ne (ntup c xs r)]; exact r
      rcases hc with rfl | hc
      · exact hbe
      · rintro rfl
        rcases he with z | z
        · exact nown c b hc z
        · rw [hc] at z; cases z; exact hb rfl
end

/-! ### kept unless tracked; of the frames at fs (the callers') the slots may change (an exception that passes writes there); of the records at ex (iterators) nothing is said -/
structure Un (fs ex : List Addr) (H H' : Hp) (h h' : Heap) : Prop where
  keep : ∀ b o, h.get? b = some o → H b = none → b ∉ fs → b ∉ ex → h'.get? b = some o
  slot : ∀ b o, h.get? b = some o → H b = none → b ∈ fs → b ∉ ex → ∃ sl, h'.get? b = some { o with slots := sl }
  free : ∀ b o, h.get? b = some o → H b = none → b ∉ ex → H' b = none
  there : ∀ b o, h.get? b = some o → b ∉ ex → ∃ o', h'.get? b = some o'
  tups : ∀ b xs, H b = some (.tup xs) → H' b = some (.tup xs)
  frzs : ∀ b o u, H b = some (.frz o u) → H' b = some (.frz o u)
  tbls : ∀ b ps, H b = some (.tbl ps) → ∃ more, H' b = some (.tbl (ps ++ more))
section
variable {fs fs' ex ex' : List Addr} {H H1 H2 : Hp} {h h1 h2 h' : Heap} {a x e : Addr} {o : HO}
theorem Un.any (u : Un fs ex H H1 h h1) {b : Addr} {ob : Obj} (q : h.get? b = some ob) (n : H b = none) (hx : b ∉ ex) : ∃ sl, h1.get? b = some { ob with slots := sl } := by
  by_cases hb : b ∈ fs
  · exact u.slot b ob q n hb hx
  · exact ⟨ob.slots, u.keep b ob q n hb hx⟩
theorem Un.kept (k : ∀ b u, h.get? b = some u → h'.get? b = some u) : Un fs ex H H h h' :=
  ⟨fun b ob q _ _ _ => k b ob q, fun b ob q _ _ _ => ⟨ob.slots, k b ob q⟩, fun _ _ _ n _ => n, fun b ob q _ => ⟨ob, k b ob q⟩, fun _ _ q => q, fun _ _ _ q => q, fun _ ps q => ⟨#[], by rw [q]; simp⟩⟩
theorem Un.refl : Un fs ex H H h h := Un.kept fun _ _ q => q
theorem Un.laid (k : ∀ b u, h.get? b = some u → h'.get? b = some u) (hp : h.objs.size ≤ a) (hn : H a = none) : Un fs ex H (upd H a o) h h' where
  keep := fun b u q _ _ _ => k b u q
  slot := fun b u q _ _ _ => ⟨u.slots, k b u q⟩
  free := fun b u q n _ => by rw [upd_ne (Nat.ne_of_lt (Nat.lt_of_lt_of_le (Heap.lt_size q) hp))]; exact n
  there := fun b u q _ => ⟨u, k b u q⟩
  tups := fun b xs q => by rw [upd_ne (ne_of_none q hn)]; exact q
  frzs := fun b u xs q => by rw [upd_ne (ne_of_none q hn)]; exact q
  tbls := fun b ps q => ⟨#[], by rw [upd_ne (ne_of_none q hn), q]; simp⟩
theorem Un.write (mu : Mut (H x)) (he : e = x ∨ H e = some (.own x)) (k : ∀ b u, b ≠ e → h.get? b = some u → h'.get? b = some u) (heo : ∃ u, h'.get? e = some u) : Un fs ex H (upd H x o) h h' := by
  have hx : ∀ b, H b = none → b ≠ x := fun b n z => by subst z; rw [n] at mu; exact mu
  have hb : ∀ b, H b = none → b ≠ e := fun b n z => by
    subst z
    rcases he with r | r
    · exact hx b n r
    · rw [n] at r; cases r
  have hm : ∀ b u, H b = some u → ¬ Mut (some u) → b ≠ x := fun b u q nm z => by subst z; rw [q] at mu; exact nm mu
  refine ⟨fun b u q n _ _ => k b u (hb b n) q, fun b u q n _ _ => ⟨u.slots, k b u (hb b n) q⟩, fun b u q n _ => by rw [upd_ne (hx b n)]; exact n, fun b u q _ => ?_,
    fun b xs q => by rw [upd_ne (hm b _ q fun z => z)]; exact q, fun b u xs q => by rw [upd_ne (hm b _ q fun z => z)]; exact q, fun b ps q => ⟨#[], by rw [upd_ne (hm b _ q fun z => z), q]; simp⟩⟩
  by_cases hbe : b = e
  · subst hbe; exact heo
  · exact ⟨u, k b u hbe q⟩
end

/-! ### the heap without what is tracked -/
def trk (h : Heap) (H : Hp) : List Addr := (List.range h.objs.size).filter fun a => (H a).isSome
def hidT (h : Heap) (H : Hp) : Heap := PySem.W.hideAll h (trk h H)
theorem hidT_size (h : Heap) (H : Hp) : (hidT h H).objs.size = h.objs.size := PySem.W.hideAll_size _ _
theorem hidT_get {h : Heap} {H : Hp} {b : Addr} {o : Obj} (e : h.get? b = some o) (n : H b = none) : (hidT h H).get? b = some o :=
  PySem.W.hideAll_get _ e fun hm => by
    have q : (H b).isSome = true := (List.mem_filter.mp hm).2
    rw [n] at q; simp at q
theorem of_hidT {h : Heap} {H : Hp} {b : Addr} {o : Obj} (e : (hidT h H).get? b = some o) : h.get? b = some o ∧ H b = none := by
  have e' : h.get? b = some o := PySem.W.of_hideAll (trk h H) e
  refine ⟨e', ?_⟩
  cases q : H b with
  | none => rfl
  | some x =>
    have hm : b ∈ trk h H := List.mem_filter.mpr ⟨List.mem_range.mpr (Heap.lt_size e'), by simp [q]⟩
    have z : (hidT h H).get? b = none := PySem.W.hideAll_none (trk h H) hm
    rw [z] at e; cases e

/-! ### OpenK's ledger, filled with every new object but one -/
end L2

namespace L2
open PySem PySem.Spec PyProof.Rows

/-- the module's facts, over the base: the heap at the law's entry without what is tracked there -/
structure Mod (K : PySem.W.Frag) (mg : Str → Option Value) (base : Heap) : Prop where
  kin : K.In base
  glob : base.Ns mainGlobals mg
  blt : ∃ mb, base.Ns builtinsNs mb ∧ ∀ x : Str, x ≠ "__name__" → mb x = bootBuiltins x
  nolimit : base.NoLimit

/-- the context: a def's body (or a comprehension's block) running. base: fixed through the whole law; s₀, H₀: the entry; outer: the frames whose slots others may change (a def's callers); stack: all frames that run;
   ex: iterators that were made ahead of the entry and are walked here (a comprehension's); fn: the names whose cells were made at the entry (a def: all; a comprehension's block: its own); calm: not within an except suite; pn: pins that every state bears; xe: what is wanted of an exception that leaves the code -/
structure Cx where
  prog : Program
  w : World
  K : PySem.W.Frag
  mg : Str → Option Value
  base : Heap
  A : Around
  N : List Str
  s₀ : Shared
  H₀ : Hp
  env : Env
  outer : List Env
  stack : List Env
  ex : List Addr
  fn : Str → Bool
  calm : Bool
  pn : List (Addr × Obj)
  xe : Value → Shared → Prop
/-- the callers' frames -/
def frs (l : List Env) : List Addr := l.filterMap (·.frame)
abbrev Cx.fs (X : Cx) : List Addr := frs X.outer

def Vis (sc : Scope) (x : Str) : Prop := sc.names.lookup x = some .local ∨ sc.names.lookup x = some .cell ∨ sc.names.lookup x = some .free
def Loc (sc : Scope) (x : Str) : Prop := sc.names.lookup x = some .local ∨ sc.names.lookup x = some .cell
def Look (env : Env) (h : Heap) (m : Str → Option Value) (x : Str) (u : Value) : Prop :=
  (env.kindOf x = some .local ∧ m x = some u) ∨ ((env.kindOf x = some .cell ∨ env.kindOf x = some .free) ∧ ∃ c, env.cells.lookup x = some c ∧ h.IsCell c (some u))

structure Cx.Ok (X : Cx) : Prop where
  mod : Mod X.K X.mg X.base
  kind : X.env.scope.kind = .function
  glob : X.env.globals = mainGlobals
  blt : X.env.builtins = builtinsNs
  above : X.s₀.heap.objs.size ≤ X.env.locals
  inj : ∀ x y c, X.env.cells.lookup x = some c → X.env.cells.lookup y = some c → x = y
  has : ∀ x, (X.env.kindOf x = some .cell ∨ X.env.kindOf x = some .free) → ∃ c, X.env.cells.lookup x = some c
  cab : ∀ x c, X.fn x = true → X.env.cells.lookup x = some c → X.s₀.heap.objs.size ≤ c
  hd : X.calm = true → X.A.handled = none
  frames : X.A.frames = some X.stack
  stk : X.stack = X.outer ∨ (X.stack = X.env :: X.outer ∧ X.env.frame = some X.env.locals)
  exf : ∀ b ∈ X.ex, b ≠ X.env.locals ∧ ∀ x c, X.env.cells.lookup x = some c → c ≠ b
  bs : ∀ b o, X.base.get? b = some o → X.s₀.heap.get? b = some o ∧ X.H₀ b = none
  bsz : X.base.objs.size ≤ X.s₀.heap.objs.size
  noex : ∀ b o, X.base.get? b = some o → b ∉ X.ex
  exfs : ∀ b ∈ X.ex, b ∉ X.fs
  funs : X.s₀.heap.FunFrames X.base X.outer
  frf : ∀ b ∈ X.fs, X.H₀ b = none

structure Inv (X : Cx) (pins : List (Addr × Obj)) (σ : List (Option V)) (H : Hp) (s : Shared) : Prop where
  ok : X.Ok
  os : s.os = X.s₀.os
  bare : AllBare s.gens
  base : Un X.fs X.ex X.H₀ H X.s₀.heap s.heap
  loc : ∃ m, s.heap.Ns X.env.locals m ∧ ∀ (i : Nat) (x : Str) (v : V), X.N[i]? = some x → σ[i]? = some (some v) → Vis X.env.scope x → ∃ u, RelV v u ∧ Look X.env s.heap m x u
  cell : ∀ x c, X.env.cells.lookup x = some c → ∃ v, s.heap.IsCell c v
  free : H X.env.locals = none
  freeC : ∀ x c, X.env.cells.lookup x = some c → H c = none
  pin : ∀ p ∈ X.pn ++ pins, s.heap.get? p.1 = some p.2 ∧ H p.1 = none ∧ p.1 ≠ X.env.locals ∧ p.1 ∉ X.fs ∧ ∀ v, p.2.data ≠ .cell v
  hok : HOk X.prog X.w H s.heap
  len : σ.length = X.N.length

section
variable {X : Cx} {pins : List (Addr × Obj)} {σ : List (Option V)} {H H' : Hp} {s : Shared} {h' : Heap}

theorem Cx.Ok.nofr (ok : X.Ok) {b : Addr} {o : Obj} (e : X.base.get? b = some o) : b ∉ X.fs := fun hb => by
  have := (ok.funs.mem hb).1
  rw [e] at this; cases this
theorem Inv.bs (I : Inv X pins σ H s) : ∀ b o, X.base.get? b = some o → s.heap.get? b = some o ∧ H b = none := fun b o e =>
  ⟨I.base.keep b o (I.ok.bs b o e).1 (I.ok.bs b o e).2 (I.ok.nofr e) (I.ok.noex b o e), I.base.free b o (I.ok.bs b o e).1 (I.ok.bs b o e).2 (I.ok.noex b o e)⟩
theorem Inv.bk (I : Inv X pins σ H s) : ∀ b o, X.base.get? b = some o → s.heap.get? b = some o := fun b o e => (I.bs b o e).1
theorem Inv.mod (I : Inv X pins σ H s) : Mod X.K X.mg X.base := I.ok.mod
theorem Inv.kIn (I : Inv X pins σ H s) : X.K.In s.heap := I.ok.mod.kin.keeps I.bk
theorem Inv.lt (I : Inv X pins σ H s) : X.env.locals < s.heap.objs.size := let ⟨_, hn, _⟩ := I.loc; hn.lt
theorem Inv.sz (I : Inv X pins σ H s) : X.s₀.heap.objs.size ≤ s.heap.objs.size := Nat.le_trans I.ok.above (Nat.le_of_lt I.lt)
theorem Inv.nofs (I : Inv X pins σ H s) {a : Addr} (h : s.heap.objs.size ≤ a) : a ∉ X.fs := fun hb => by
  obtain ⟨_, o, ho, _⟩ := I.ok.funs.mem hb
  exact absurd (Nat.lt_of_lt_of_le (Heap.lt_size ho) (Nat.le_trans I.sz h)) (Nat.lt_irrefl _)
theorem Inv.cne (I : Inv X pins σ H s) : ∀ x c, X.env.cells.lookup x = some c → c ≠ X.env.locals := fun x c e z => by
  obtain ⟨v, o, ho, hd⟩ := I.cell x c e
  obtain ⟨m, ⟨o', es, ep, ho', hd', _⟩, _⟩ := I.loc
  rw [z, ho'] at ho; cases ho; rw [hd'] at hd; cases hd
theorem Inv.funs (I : Inv X pins σ H s) : s.heap.FunFrames X.base X.outer := by
  have all : ∀ (l : List Env), (∀ b ∈ frs l, b ∈ X.fs) → X.s₀.heap.FunFrames X.base l → s.heap.FunFrames X.base l := by
    intro l
    induction l with
    | nil => intro _ _; trivial
    | cons env r ih =>
      intro hs hl
      obtain ⟨hk, ⟨L, o, hf, hn, ho, hd⟩, hr⟩ := hl
      have hL : L ∈ X.fs := hs L (by unfold frs; rw [List.filterMap_cons, hf]; exact List.mem_cons_self)
      obtain ⟨sl, e⟩ := I.base.slot L o ho (I.ok.frf L hL) hL fun z => I.ok.exfs L z hL
      exact ⟨hk, ⟨L, _, hf, hn, e, hd⟩, ih (fun b hb => hs b (by unfold frs; rw [List.filterMap_cons, hf]; exact List.mem_cons_of_mem _ hb)) hr⟩
  exact all X.outer (fun _ hb => hb) I.ok.funs

/-- the frames that run, for a call -/
theorem Inv.stack (I : Inv X pins σ H s) : s.heap.FunFrames X.base X.stack := by
  rcases I.ok.stk with e | ⟨e, hf⟩
  · rw [e]; exact I.funs
  · rw [e]
    obtain ⟨m, hn, _⟩ := I.loc
    refine .cons (by rw [I.ok.kind]; decide) hf hn ?_ I.funs
    exact Heap.get?_none_of_le (Nat.le_trans I.ok.bsz I.ok.above)
theorem Inv.stkSub (I : Inv X pins σ H s) : ∀ b ∈ frs X.stack, b ∈ X.env.locals :: X.fs := fun b hb => by
  rcases I.ok.stk with e | ⟨e, hf⟩
  · rw [e] at hb; exact List.mem_cons_of_mem _ hb
  · rw [e] at hb
    unfold frs at hb
    rw [List.filterMap_cons, hf] at hb
    exact hb
theorem Inv.stkFree (I : Inv X pins σ H s) : ∀ b ∈ frs X.stack, H b = none := fun b hb => by
  rcases List.mem_cons.mp (I.stkSub b hb) with e | hb
  · rw [e]; exact I.free
  · obtain ⟨_, o, ho, _⟩ := I.ok.funs.mem hb
    exact I.base.free b o ho (I.ok.frf b hb) fun z => I.ok.exfs b z hb

/-- THE STEP: the untracked objects but the frame and the records at ch are kept (the callers' frames up to slots), the frame's map is kept, the new abstract heap is held -/
theorem Inv.step {g' : Array GenState} {t' : Nat} {d' : Drawn} {ch : List Addr} (I : Inv X pins σ H s)
    (hch : ∀ b ∈ ch, (b ∈ X.ex ∨ X.s₀.heap.objs.size ≤ b) ∧ b ≠ X.env.locals ∧ (∀ x c, X.env.cells.lookup x = some c → c ≠ b) ∧ ∀ p ∈ X.pn ++ pins, p.1 ≠ b)
    (keep : ∀ b o, b ≠ X.env.locals → b ∉ X.fs → b ∉ ch → s.heap.get? b = some o → H b = none → h'.get? b = some o)
    (slot : ∀ b o, b ≠ X.env.locals → b ∈ X.fs → b ∉ ch → s.heap.get? b = some o → H b = none → ∃ sl, h'.get? b = some { o with slots := sl }) (free : ∀ b o, b ∉ ch → s.heap.get? b = some o → H b = none → H' b = none)
    (there : ∀ b o, b ∉ ch → s.heap.get? b = some o → ∃ o', h'.get? b = some o')
    (tups : ∀ b xs, H b = some (.tup xs) → H' b = some (.tup xs)) (frzs : ∀ b o u, H b = some (.frz o u) → H' b = some (.frz o u)) (tbls : ∀ b ps, H b = some (.tbl ps) → ∃ more, H' b = some (.tbl (ps ++ more)))
    (ns : ∀ m, s.heap.Ns X.env.locals m → h'.Ns X.env.locals m) (hok : HOk X.prog X.w H' h') (hg : AllBare g') :
    Inv X pins σ H' { s with heap := h', gens := g', drawn := d', toks := t' } := by
  have neL : ∀ b o, X.s₀.heap.get? b = some o → b ≠ X.env.locals := fun b o e => Nat.ne_of_lt (Nat.lt_of_lt_of_le (Heap.lt_size e) I.ok.above)
  have neC : ∀ b o, X.s₀.heap.get? b = some o → b ∉ X.ex → b ∉ ch := fun b o e hx hb => by
    rcases (hch b hb).1 with z | z
    · exact hx z
    · exact absurd (Nat.lt_of_lt_of_le (Heap.lt_size e) z) (Nat.lt_irrefl _)
  have cellK : ∀ x c, X.env.cells.lookup x = some c → ∀ v, s.heap.IsCell c v → h'.IsCell c v := fun x c e v ⟨o, ho, hd⟩ => by
    have nch : c ∉ ch := fun z => (hch c z).2.2.1 x c e rfl
    by_cases hc : c ∈ X.fs
    · obtain ⟨sl, q⟩ := slot c o (I.cne x c e) hc nch ho (I.freeC x c e)
      exact ⟨_, q, hd⟩
    · exact ⟨o, keep c o (I.cne x c e) hc nch ho (I.freeC x c e), hd⟩
  refine ⟨I.ok, I.os, hg, ⟨fun b o e n hb hx => ?_, fun b o e n hb hx => ?_, fun b o e n hx => ?_, fun b o e hx => ?_, fun b xs e => tups b xs (I.base.tups b xs e), fun b o xs e => frzs b o xs (I.base.frzs b o xs e), fun b ps e => ?_⟩, ?_, fun x c e => ?_, ?_, fun x c e => ?_, fun p hp => ?_, hok, I.len⟩
  · exact keep b o (neL b o e) hb (neC b o e hx) (I.base.keep b o e n hb hx) (I.base.free b o e n hx)
  · obtain ⟨sl, e1⟩ := I.base.slot b o e n hb hx
    obtain ⟨sl', e2⟩ := slot b _ (neL b o e) hb (neC b o e hx) e1 (I.base.free b o e n hx)
    exact ⟨sl', e2⟩
  · obtain ⟨o', e1⟩ := I.base.there b o e hx
    exact free b o' (neC b o e hx) e1 (I.base.free b o e n hx)
  · obtain ⟨o', e1⟩ := I.base.there b o e hx
    exact there b o' (neC b o e hx) e1
  · obtain ⟨m1, e1⟩ := I.base.tbls b ps e
    obtain ⟨m2, e2⟩ := tbls b _ e1
    exact ⟨m1 ++ m2, by rw [e2, Array.append_assoc]⟩
  · obtain ⟨m, hn, hl⟩ := I.loc
    refine ⟨m, ns m hn, fun i x v e1 e2 e3 => ?_⟩
    obtain ⟨u, r, l⟩ := hl i x v e1 e2 e3
    refine ⟨u, r, ?_⟩
    rcases l with l | ⟨k, c, e, z⟩
    · exact .inl l
    · exact .inr ⟨k, c, e, cellK x c e _ z⟩
  · obtain ⟨v, z⟩ := I.cell x c e
    exact ⟨v, cellK x c e v z⟩
  · obtain ⟨m, ⟨o, _, _, ho, _⟩, _⟩ := I.loc
    exact free _ o (fun z => (hch _ z).2.1 rfl) ho I.free
  · obtain ⟨v, o, ho, hd⟩ := I.cell x c e
    exact free c o (fun z => (hch c z).2.2.1 x c e rfl) ho (I.freeC x c e)
  · obtain ⟨e, n, ne, nf, d⟩ := I.pin p hp
    have nch : p.1 ∉ ch := fun z => (hch p.1 z).2.2.2 p hp rfl
    exact ⟨keep p.1 p.2 ne nf nch e n, free p.1 p.2 nch e n, ne, nf, d⟩
/-- .. where the frame's own object is kept too -/
theorem Inv.un {t' : Nat} (I : Inv X pins σ H s) (u : Un X.fs [] H H' s.heap h') (hok : HOk X.prog X.w H' h') : Inv X pins σ H' { s with heap := h', toks := t' } := by
  obtain ⟨m, ⟨o, es, ep, ho, r⟩, _⟩ := id I.loc
  obtain ⟨sl, hL⟩ := u.any ho I.free (by simp)
  exact I.step (g' := s.gens) (d' := s.drawn) (ch := []) (fun _ z => nomatch z) (fun b o _ hb _ e n => u.keep b o e n hb (by simp)) (fun b o _ hb _ e n => u.slot b o e n hb (by simp)) (fun b o _ e n => u.free b o e n (by simp)) (fun b o _ e => u.there b o e (by simp)) u.tups u.frzs u.tbls (fun m' hm => by
    obtain ⟨o', es', ep', ho', r'⟩ := hm
    rw [ho] at ho'; cases ho'
    exact ⟨_, es', ep', hL, r'⟩) hok I.bare
/-- behind a call (or a comprehension's block): the slots of this frame may have changed too, the records at ch may have turned -/
theorem Inv.call {g' : Array GenState} {t' : Nat} {d' : Drawn} {ch : List Addr} (I : Inv X pins σ H s) (u : Un (frs X.stack) ch H H' s.heap h') (hok : HOk X.prog X.w H' h') (hg : AllBare g')
    (hch : ∀ b ∈ ch, (b ∈ X.ex ∨ X.s₀.heap.objs.size ≤ b) ∧ b ≠ X.env.locals ∧ (∀ x c, X.env.cells.lookup x = some c → c ≠ b) ∧ ∀ p ∈ X.pn ++ pins, p.1 ≠ b) :
    Inv X pins σ H' { s with heap := h', gens := g', drawn := d', toks := t' } := by
  obtain ⟨m, ⟨o, es, ep, ho, r⟩, _⟩ := id I.loc
  obtain ⟨sl, hL⟩ := u.any ho I.free fun z => (hch _ z).2.1 rfl
  exact I.step (ch := ch) hch (fun b o hL hb hc e n => u.keep b o e n (fun z => (List.mem_cons.mp (I.stkSub b z)).elim hL hb) hc) (fun b o _ _ hc e n => u.any e n hc) (fun b o hc e n => u.free b o e n hc) (fun b o hc e => u.there b o e hc) u.tups u.frzs u.tbls (fun m' hm => by
    obtain ⟨o', es', ep', ho', r'⟩ := hm
    rw [ho] at ho'; cases ho'
    exact ⟨_, es', ep', hL, r'⟩) hok hg
/-- an untracked record of ours (an iterator) has turned -/
theorem Inv.turned {t' : Nat} {it : Addr} (I : Inv X pins σ H s) (k : ∀ b o, b ≠ it → s.heap.get? b = some o → h'.get? b = some o) (hn : H it = none) (hL : it ≠ X.env.locals)
    (h1 : it ∈ X.ex ∨ X.s₀.heap.objs.size ≤ it) (h2 : ∀ x c, X.env.cells.lookup x = some c → c ≠ it) (h3 : ∀ p ∈ X.pn ++ pins, p.1 ≠ it) : Inv X pins σ H { s with heap := h', toks := t' } := by
  have nit : ∀ b u, H b = some u → b ≠ it := fun b u e z => by rw [z, hn] at e; cases e
  refine I.step (g' := s.gens) (d' := s.drawn) (ch := [it]) (fun b hb => ?_) (fun b o _ _ hc e _ => k b o (fun z => hc (by simp [z])) e) (fun b o _ _ hc e _ => ⟨o.slots, k b o (fun z => hc (by simp [z])) e⟩) (fun _ _ _ _ n => n)
    (fun b o hc e => ⟨o, k b o (fun z => hc (by simp [z])) e⟩) (fun _ _ e => e) (fun _ _ _ e => e) (fun b ps e => ⟨#[], by rw [e]; simp⟩) (fun m hm => ?_) (fun b u e => ?_) I.bare
  · have e : b = it := by simpa using hb
    subst e
    exact ⟨h1, hL, h2, h3⟩
  · obtain ⟨o, es, ep, ho, r⟩ := hm
    exact ⟨o, es, ep, k _ o (Ne.symm hL) ho, r⟩
  · refine (I.hok b u e).stay (fun c v hc q => k c v ?_ q) (fun _ q => q) fun _ _ q => q
    rcases hc with z | z
    · rw [z]; exact nit b u e
    · exact nit c _ z
theorem Inv.tok (I : Inv X pins σ H s) (t : Nat) : Inv X pins σ H { s with toks := t } := I.un (h' := s.heap) (t' := t) Un.refl I.hok
/-- all objects kept -/
theorem Inv.kept {t' : Nat} (I : Inv X pins σ H s) (k : ∀ b u, s.heap.get? b = some u → h'.get? b = some u) : Inv X pins σ H { s with heap := h', toks := t' } := I.un (Un.kept k) (I.hok.kept k)
/-- a new object laid and tracked -/
theorem Inv.laid {a : Addr} {o : HO} {t' : Nat} (I : Inv X pins σ H s) (k : ∀ b u, s.heap.get? b = some u → h'.get? b = some u) (hp : s.heap.objs.size ≤ a) (new : ObjOk X.prog X.w (upd H a o) h' a o) :
    Inv X pins σ (upd H a o) { s with heap := h', toks := t' } := I.un (Un.laid k hp (I.hok.fresh hp)) (I.hok.laid k hp new)
/-- an object written -/
theorem Inv.write {x e : Addr} {o : HO} {t' : Nat} (I : Inv X pins σ H s) (mu : Mut (H x)) (he : e = x ∨ H e = some (.own x)) (k : ∀ b u, b ≠ e → s.heap.get? b = some u → h'.get? b = some u) (heo : ∃ u, h'.get? e = some u)
    (new : ObjOk X.prog X.w (upd H x o) h' x o) : Inv X pins σ (upd H x o) { s with heap := h', toks := t' } := I.un (Un.write mu he k heo) (I.hok.write mu he k heo new)
/-- forgetting slots, pins -/
theorem Inv.weak {σ' : List (Option V)} (I : Inv X pins σ H s) (hl : σ'.length = σ.length) (w : ∀ (i : Nat) v, σ'[i]? = some (some v) → σ[i]? = some (some v)) : Inv X pins σ' H s :=
  ⟨I.ok, I.os, I.bare, I.base, let ⟨m, hn, hl'⟩ := I.loc; ⟨m, hn, fun i x v e1 e2 e3 => hl' i x v e1 (w i v e2) e3⟩, I.cell, I.free, I.freeC, I.pin, I.hok, hl.trans I.len⟩
theorem Inv.pins_of {pins' : List (Addr × Obj)} (I : Inv X pins σ H s) (h : ∀ p ∈ pins', s.heap.get? p.1 = some p.2 ∧ H p.1 = none ∧ p.1 ≠ X.env.locals ∧ p.1 ∉ X.fs ∧ ∀ v, p.2.data ≠ .cell v) : Inv X pins' σ H s :=
  ⟨I.ok, I.os, I.bare, I.base, I.loc, I.cell, I.free, I.freeC, fun p hp => (List.mem_append.mp hp).elim (fun z => I.pin p (List.mem_append_left _ z)) (h p), I.hok, I.len⟩

theorem nodup_ix {N : List Str} (hN : N.Nodup) {i j : Nat} {x : Str} (a : N[i]? = some x) (b : N[j]? = some x) : i = j := by
  obtain ⟨h1, e1⟩ := List.getElem?_eq_some_iff.mp a
  obtain ⟨h2, e2⟩ := List.getElem?_eq_some_iff.mp b
  exact (List.getElem_inj hN).mp (e1.trans e2.symm)

/-- a name is stored; what changed -/
theorem store_ok2 {M : Model} {A : Around} {E : Value → Shared → Prop} {i : Nat} {x : Str} {v : V} {u : Value} {Q : Unit → Shared → Prop} (I : Inv X pins σ H s) (hN : X.N.Nodup) (hi : X.N[i]? = some x) (hx : Loc X.env.scope x) (r : RelV v u)
    (h : ∀ s', Inv X pins (σ.set i (some v)) H s' → (∃ a, Heap.SameBut a s.heap s'.heap ∧ (a = X.env.locals ∨ X.env.cells.lookup x = some a)) → Q () s') (hf : X.fn x = true ∨ X.env.scope.names.lookup x = some .local := by first | exact .inl rfl | exact .inr rfl | assumption) : wpAny M A (storeName X.env x u) Q E s := by
  obtain ⟨m, hn, hl⟩ := id I.loc
  have hcls : (X.env.scope.kind == .class || (X.env.scope.kind == .module && X.env.locals != X.env.globals)) = false := by rw [I.ok.kind]; rfl
  have hiσ : i < σ.length := by rw [I.len]; exact (List.getElem?_eq_some_iff.mp hi).1
  have cne := I.cne
  have tracked : ∀ {a : Addr} {h' : Heap}, (∃ o, s.heap.get? a = some o ∧ H a = none) → Heap.SameBut a s.heap h' → HOk X.prog X.w H h' := fun {a h'} ha hs b ob e => by
    obtain ⟨_, _, hfree⟩ := ha
    refine (I.hok b ob e).stay (fun c w' hc q => (hs.2 c ?_).trans q) (fun _ q => q) fun _ _ q => q
    rintro rfl
    rcases hc with rfl | hc
    · rw [hfree] at e; cases e
    · rw [hfree] at hc; cases hc
  rcases hx with hk | hk
  · refine wpAny_storeName_local hk hn (fun h' hn' hs => ?_) hcls
    obtain ⟨oL, _, _, hoL, _⟩ := id hn
    refine h _ ⟨I.ok, I.os, I.bare, ⟨fun b o e n hb hx => ?_, fun b o e n hb hx => ?_, I.base.free, fun b o e hx => ?_, I.base.tups, I.base.frzs, I.base.tbls⟩, ⟨_, hn', fun j y v' e1 e2 e3 => ?_⟩, fun y c e => ?_, I.free, I.freeC, fun p hp => ?_, tracked ⟨oL, hoL, I.free⟩ hs, by simpa using I.len⟩ ⟨_, hs, .inl rfl⟩
    · exact (hs.2 b (Nat.ne_of_lt (Nat.lt_of_lt_of_le (Heap.lt_size e) I.ok.above))).trans (I.base.keep b o e n hb hx)
    · obtain ⟨sl, e1⟩ := I.base.slot b o e n hb hx
      exact ⟨sl, (hs.2 b (Nat.ne_of_lt (Nat.lt_of_lt_of_le (Heap.lt_size e) I.ok.above))).trans e1⟩
    · obtain ⟨o', e1⟩ := I.base.there b o e hx
      exact ⟨o', (hs.2 b (Nat.ne_of_lt (Nat.lt_of_lt_of_le (Heap.lt_size e) I.ok.above))).trans e1⟩
    · by_cases hj : j = i
      · subst hj
        rw [hi] at e1; cases e1
        rw [List.getElem?_set_self hiσ] at e2
        cases e2
        exact ⟨u, r, .inl ⟨hk, by simp⟩⟩
      · rw [List.getElem?_set_ne (Ne.symm hj)] at e2
        obtain ⟨u', r', q⟩ := hl j y v' e1 e2 e3
        refine ⟨u', r', ?_⟩
        rcases q with ⟨k, e⟩ | ⟨k, c, e, z⟩
        · refine .inl ⟨k, ?_⟩
          have : y ≠ x := fun e => hj (nodup_ix hN e1 (e ▸ hi))
          simp [this, e]
        · exact .inr ⟨k, c, e, z.sameBut hs (cne y c e)⟩
    · obtain ⟨w', z⟩ := I.cell y c e
      exact ⟨w', z.sameBut hs (cne y c e)⟩
    · obtain ⟨e, n, ne, nf, d⟩ := I.pin p hp
      exact ⟨(hs.2 p.1 ne).trans e, n, ne, nf, d⟩
  · have hfn : X.fn x = true := by
      rcases hf with z | z
      · exact z
      · rw [z] at hk; cases hk
    obtain ⟨c, hc⟩ := I.ok.has x (.inl hk)
    obtain ⟨w', z⟩ := I.cell x c hc
    refine wpAny_storeName_cell I.ok.kind hk hc z (fun h' hc' hs => ?_)
    obtain ⟨oc, hoc, hocd⟩ := id z
    refine h { s with heap := h' } ⟨I.ok, I.os, I.bare, ⟨fun b o e n hb hx => ?_, fun b o e n hb hx => ?_, I.base.free, fun b o e hx => ?_, I.base.tups, I.base.frzs, I.base.tbls⟩, ⟨m, hn.sameBut hs (Ne.symm (cne x c hc)), fun j y v' e1 e2 e3 => ?_⟩, fun y c' e => ?_, I.free, I.freeC, fun p hp => ?_, tracked ⟨oc, hoc, I.freeC x c hc⟩ hs, by simpa using I.len⟩ ⟨c, hs, .inr hc⟩
    · exact (hs.2 b (Nat.ne_of_lt (Nat.lt_of_lt_of_le (Heap.lt_size e) (I.ok.cab x c hfn hc)))).trans (I.base.keep b o e n hb hx)
    · obtain ⟨sl, e1⟩ := I.base.slot b o e n hb hx
      exact ⟨sl, (hs.2 b (Nat.ne_of_lt (Nat.lt_of_lt_of_le (Heap.lt_size e) (I.ok.cab x c hfn hc)))).trans e1⟩
    · obtain ⟨o', e1⟩ := I.base.there b o e hx
      exact ⟨o', (hs.2 b (Nat.ne_of_lt (Nat.lt_of_lt_of_le (Heap.lt_size e) (I.ok.cab x c hfn hc)))).trans e1⟩
    · by_cases hj : j = i
      · subst hj
        rw [hi] at e1; cases e1
        rw [List.getElem?_set_self hiσ] at e2
        cases e2
        exact ⟨u, r, .inr ⟨.inl hk, c, hc, hc'⟩⟩
      · rw [List.getElem?_set_ne (Ne.symm hj)] at e2
        obtain ⟨u', r', q⟩ := hl j y v' e1 e2 e3
        refine ⟨u', r', ?_⟩
        rcases q with q | ⟨k, c', e, z'⟩
        · exact .inl q
        · refine .inr ⟨k, c', e, z'.sameBut hs ?_⟩
          rintro rfl
          exact hj (nodup_ix hN e1 (I.ok.inj _ _ _ e hc ▸ hi))
    · by_cases hcc : c' = c
      · subst hcc; exact ⟨_, hc'⟩
      · obtain ⟨w2, z2⟩ := I.cell y c' e
        exact ⟨w2, z2.sameBut hs hcc⟩
    · obtain ⟨e, n, ne, nf, d⟩ := I.pin p hp
      refine ⟨(hs.2 p.1 ?_).trans e, n, ne, nf, d⟩
      intro q
      rw [q, hoc] at e
      have q' : oc = p.2 := Option.some.inj e
      exact d w' (by rw [← q']; exact hocd)
theorem store_ok {M : Model} {A : Around} {E : Value → Shared → Prop} {i : Nat} {x : Str} {v : V} {u : Value} {Q : Unit → Shared → Prop} (I : Inv X pins σ H s) (hN : X.N.Nodup) (hi : X.N[i]? = some x) (hx : Loc X.env.scope x) (r : RelV v u)
    (h : ∀ s', Inv X pins (σ.set i (some v)) H s' → Q () s') (hf : X.fn x = true ∨ X.env.scope.names.lookup x = some .local := by first | exact .inl rfl | exact .inr rfl | assumption) : wpAny M A (storeName X.env x u) Q E s :=
  store_ok2 I hN hi hx r (fun s' I' _ => h s' I') hf
/-- behind a call or a block, the state as it is -/
theorem Inv.call' {s' : Shared} {ch : List Addr} (I : Inv X pins σ H s) (ho : s'.os = s.os) (u : Un (frs X.stack) ch H H' s.heap s'.heap) (hok : HOk X.prog X.w H' s'.heap) (hg : AllBare s'.gens)
    (hch : ∀ b ∈ ch, (b ∈ X.ex ∨ X.s₀.heap.objs.size ≤ b) ∧ b ≠ X.env.locals ∧ (∀ x c, X.env.cells.lookup x = some c → c ≠ b) ∧ ∀ p ∈ X.pn ++ pins, p.1 ≠ b) : Inv X pins σ H' s' := by
  obtain ⟨h', g', d', t', o'⟩ := s'
  have e : o' = s.os := ho
  subst e
  exact I.call (g' := g') (t' := t') (d' := d') u hok hg hch
end

/-! ### the judgements -/
/-- an exception: its class, its own dict's address (where it has one), the abstract heap behind it -/
abbrev XK := Value → Option Addr → Hp → Prop
abbrev St := List (Option V)
abbrev VK := V → Hp → Prop
/-- an expression's reading; a test's; an argument list's -/
abbrev TE := St → Hp → VK → Prop
abbrev TT := St → Hp → (Bool → Hp → Prop) → Prop
abbrev TA := St → Hp → (List V → Hp → Prop) → Prop
/-- what is wanted behind a statement -/
structure Ends where
  nx : St → Hp → Prop
  rt : VK
  bk : St → Hp → Prop := fun _ _ => False
  ct : St → Hp → Prop := fun _ _ => False
abbrev TS := Ends → St → Hp → Prop

def EP (X : Cx) (pins : List (Addr × Obj)) (σ : St) (Q : VK) (u : Value) (s' : Shared) : Prop := ∃ v H', Inv X pins σ H' s' ∧ RelV v u ∧ Q v H'
def TP (X : Cx) (pins : List (Addr × Obj)) (σ : St) (Q : Bool → Hp → Prop) (b : Bool) (s' : Shared) : Prop := ∃ H', Inv X pins σ H' s' ∧ Q b H'
def AP (X : Cx) (pins : List (Addr × Obj)) (σ : St) (Q : List V → Hp → Prop) (us : List Value) (s' : Shared) : Prop := ∃ vs H', Inv X pins σ H' s' ∧ Vals vs us ∧ Q vs H'
def SP (X : Cx) (pins : List (Addr × Obj)) (D : Ends) (f : Flow) (s' : Shared) : Prop :=
  match f with
  | .next => ∃ σ' H', Inv X pins σ' H' s' ∧ D.nx σ' H'
  | .brk => ∃ σ' H', Inv X pins σ' H' s' ∧ D.bk σ' H'
  | .cont => ∃ σ' H', Inv X pins σ' H' s' ∧ D.ct σ' H'
  | .ret u => ∃ v σ' H', Inv X pins σ' H' s' ∧ RelV v u ∧ D.rt v H'

def PE (X : Cx) (e : Expr) (t : TE) : Prop :=
  ∀ (pins : List (Addr × Obj)) (s : Shared) (σ : St) (H : Hp) (Q : VK), Inv X pins σ H s → t σ H Q → wpAny (model X.prog X.w) X.A (eval e X.env) (EP X pins σ Q) X.xe s
def PT (X : Cx) (e : Expr) (t : TT) : Prop :=
  ∀ (pins : List (Addr × Obj)) (s : Shared) (σ : St) (H : Hp) (Q : Bool → Hp → Prop), Inv X pins σ H s → t σ H Q → wpAny (model X.prog X.w) X.A (isTrue e X.env (eval e X.env)) (TP X pins σ Q) X.xe s
/-- a test whatever its 'whole' is (and, or) -/
def PW (X : Cx) (e : Expr) (t : TT) : Prop :=
  ∀ (whole : Sem Value) (pins : List (Addr × Obj)) (s : Shared) (σ : St) (H : Hp) (Q : Bool → Hp → Prop), Inv X pins σ H s → t σ H Q → wpAny (model X.prog X.w) X.A (isTrue e X.env whole) (TP X pins σ Q) X.xe s
theorem PW.pt {X : Cx} {e : Expr} {t : TT} (h : PW X e t) : PT X e t := h _
/-- an argument list (no star), from the left -/
def PA (X : Cx) (es : List Expr) (t : TA) : Prop :=
  ∀ (pos : Pos) (pins : List (Addr × Obj)) (s : Shared) (σ : St) (H : Hp) (Q : List V → Hp → Prop), Inv X pins σ H s → t σ H Q → wpAny (model X.prog X.w) X.A (spliced (backTo pos (starEach es X.env))) (AP X pins σ Q) X.xe s
def PS (X : Cx) (st : Stmt) (t : TS) : Prop :=
  ∀ (pins : List (Addr × Obj)) (s : Shared) (σ : St) (H : Hp) (D : Ends), Inv X pins σ H s → t D σ H → wpAny (model X.prog X.w) X.A (exec st X.env) (SP X pins D) X.xe s
def PSs (X : Cx) (st : List Stmt) (t : TS) : Prop :=
  ∀ (pins : List (Addr × Obj)) (s : Shared) (σ : St) (H : Hp) (D : Ends), Inv X pins σ H s → t D σ H → wpAny (model X.prog X.w) X.A (execs st X.env) (SP X pins D) X.xe s
/-- weaken the end -/
theorem thn {α : Type} {t : Sem α} {Q Q' : α → Shared → Prop} {M : Model} {A : Around} {E : Value → Shared → Prop} {s : Shared} (h : wpAny M A t Q E s) (hQ : ∀ a s, Q a s → Q' a s) : wpAny M A t Q' E s := wpAny_mono h hQ fun _ _ x => x
end L2

namespace L2
open PySem PySem.Spec PyProof.Rows
section
variable {X : Cx}

/-! ### names and constants -/
def tVar (i : Nat) : TE := fun σ H Q => ∃ v, σ[i]? = some (some v) ∧ Q v H
def tC (v : V) : TE := fun _ H Q => Q v H
theorem pe_var {i : Nat} {x : Str} {pos : Pos} (hN : X.N[i]? = some x) (hv : Vis X.env.scope x) (hd : (x == ("__debug__" : Str)) = false := by decide) (hcd : (x == ("__classdict__" : Str)) = false := by decide) : PE X (.Name x pos) (tVar i) := by
  intro pins s σ H Q I h
  obtain ⟨v, e, h⟩ := h
  obtain ⟨m, hn, hl⟩ := I.loc
  obtain ⟨u, r, l⟩ := hl i x v hN e hv
  have fin : EP X pins σ Q u s := ⟨v, H, I, r, h⟩
  rcases l with ⟨hk, hm⟩ | ⟨hk, c, hc, hcell⟩
  · exact wpAny_Name (wpAny_loadName_local I.ok.kind hk hn hm fin) hd
  · rcases hk with hk | hk
    · exact wpAny_Name (wpAny_loadName_cell I.ok.kind hk hc hcell fin) hd
    · exact wpAny_Name (wpAny_loadName_free I.ok.kind hk hc hcell fin hcd) hd
theorem pe_int {i j pos} : PE X (.Constant (.int i) j pos) (tC (.int i)) := fun _ _ _ H _ I h => wpAny_Constant_int ⟨.int i, H, I.tok _, ⟨_, rfl⟩, h⟩
theorem pe_bl {b j pos} : PE X (.Constant (.bool b) j pos) (tC (.bl b)) := fun _ _ _ H _ I h => Constant_bool ⟨.bl b, H, I, rfl, h⟩
theorem pe_non {j pos} : PE X (.Constant .none j pos) (tC .non) := fun _ _ _ H _ I h => Constant_none ⟨.non, H, I, rfl, h⟩
/-- a global name of the def -/
def Gl (X : Cx) (x : Str) : Prop := X.env.kindOf x = some .globalImplicit
theorem ld_glob {E : Value → Shared → Prop} {pins : List (Addr × Obj)} {s : Shared} {σ : St} {H : Hp} {x : Str} {u : Value} {pos : Pos} {Q : Value → Shared → Prop} (I : Inv X pins σ H s) (hg : Gl X x) (hm : X.mg x = some u) (h : Q u s)
    (hd : (x == ("__debug__" : Str)) = false := by decide) : wpAny (model X.prog X.w) X.A (eval (.Name x pos) X.env) Q E s :=
  Calls.Name_function_global I.ok.kind hg (Calls.loadGlobal_global (by rw [I.ok.glob]; exact I.mod.glob.keeps I.bk) hm h) hd
theorem ld_blt {E : Value → Shared → Prop} {pins : List (Addr × Obj)} {s : Shared} {σ : St} {H : Hp} {x : Str} {u : Value} {pos : Pos} {Q : Value → Shared → Prop} (I : Inv X pins σ H s) (hg : Gl X x) (hm : X.mg x = none) (hv : bootBuiltins x = some u) (h : Q u s)
    (hn : x ≠ "__name__" := by decide) (hd : (x == ("__debug__" : Str)) = false := by decide) : wpAny (model X.prog X.w) X.A (eval (.Name x pos) X.env) Q E s := by
  obtain ⟨mb, h1, h2⟩ := I.mod.blt
  exact Calls.Name_function_global I.ok.kind hg (Calls.loadGlobal_builtin (by rw [I.ok.glob]; exact I.mod.glob.keeps I.bk) hm (by rw [I.ok.blt]; exact h1.keeps I.bk) ((h2 x hn).trans hv) h) hd
/-- a module's constant, a class, a function, as a value -/
theorem pe_glob {x : Str} {v : V} {u : Value} {pos : Pos} (hg : Gl X x) (hm : X.mg x = some u) (r : RelV v u) (hd : (x == ("__debug__" : Str)) = false := by decide) : PE X (.Name x pos) (tC v) :=
  fun _ _ _ H _ I h => ld_glob I hg hm ⟨v, H, I, r, h⟩ hd
theorem pe_bltn {x : Str} {v : V} {u : Value} {pos : Pos} (hg : Gl X x) (hm : X.mg x = none) (hv : bootBuiltins x = some u) (r : RelV v u) (hn : x ≠ "__name__" := by decide) (hd : (x == ("__debug__" : Str)) = false := by decide) : PE X (.Name x pos) (tC v) :=
  fun _ _ _ H _ I h => ld_blt I hg hm hv ⟨v, H, I, r, h⟩ hn hd

/-! ### arithmetic -/
variable {a b : Expr} {ta tb : TE} {pos : Pos}
/-! ### comparisons -/
def PC (X : Cx) (op : CmpOp) (a b : Expr) (t : TE) : Prop :=
  ∀ (pins : List (Addr × Obj)) (s : Shared) (σ : St) (H : Hp) (Q : VK), Inv X pins σ H s → t σ H Q →
    wpAny (model X.prog X.w) X.A (eval a X.env) (fun v s₁ => wpAny (model X.prog X.w) X.A (eval b X.env) (fun u s₂ => wpAny (model X.prog X.w) X.A (compareOp op v u) (EP X pins σ Q) X.xe s₂) X.xe s₁) X.xe s
/-- a comparison as a value, as a test -/
def tB (t : TE) : TT := fun σ H Q => t σ H fun x H1 => ∃ c, x = .bl c ∧ Q c H1
theorem pt_cmp {op : CmpOp} {t : TE} (h : PC X op a b t) (h1 : behindInMarks op b = false := by first | exact nobehind _ (by decide) (by decide) | rfl) : PT X (.Compare a [op] [b] pos) (tB t) := by
  intro pins s σ H Q I hw
  refine wpAny_isTrue_Compare1 (thn (h pins s σ H _ I hw) fun v s1 h1 => thn h1 fun u s2 h2 => thn h2 fun c s3 ⟨x, H1, I1, r1, q1⟩ => ?_) h1
  obtain ⟨d, rfl, q⟩ := q1
  cases r1
  exact wpAny_truthy_bool ⟨H1, I1, q⟩
/-- an expression whose value is a bool, as a test -/
theorem pt_val {e : Expr} {t : TE} (h : PE X e t) (he : ∀ whole, isTrue e X.env whole = (do let v ← whole; standAt e.pos; holding [v] (truthy v)) := by intro _; rfl) : PT X e (tB t) := by
  intro pins s σ H Q I hw
  refine isTrue_plain (thn (h pins s σ H _ I hw) fun v s1 ⟨x, H1, I1, r1, q1⟩ => ?_) (he _)
  obtain ⟨d, rfl, q⟩ := q1
  cases r1
  exact wpAny_truthy_bool ⟨H1, I1, q⟩

/-! ### and, or, not -/
variable {tA tB' : TT} {rest : List Expr}
def tAnd (t u : TT) : TT := fun σ H Q => t σ H fun c H1 => if c = true then u σ H1 Q else Q false H1
def tOr (t u : TT) : TT := fun σ H Q => t σ H fun c H1 => if c = true then Q true H1 else u σ H1 Q
def tNot (t : TT) : TT := fun σ H Q => t σ H fun c H1 => Q (!c) H1
theorem pw_and1 (ha : PT X a tA) : PW X (.BoolOp .And [a] pos) tA := by
  intro wh pins s σ H Q I h
  refine isTrue_and (thn (ha pins s σ H Q I h) fun c s1 e => ?_)
  cases c with
  | true => exact isTrue_and_nil e
  | false => exact e
theorem pw_or1 (ha : PT X a tA) : PW X (.BoolOp .Or [a] pos) tA := by
  intro wh pins s σ H Q I h
  refine isTrue_or (thn (ha pins s σ H Q I h) fun c s1 e => ?_)
  cases c with
  | false => exact isTrue_or_nil e
  | true => exact e
theorem pw_and (ha : PT X a tA) (hb : PW X (.BoolOp .And (b :: rest) pos) tB') : PW X (.BoolOp .And (a :: b :: rest) pos) (tAnd tA tB') := by
  intro wh pins s σ H Q I h
  refine isTrue_and (thn (ha pins s σ H _ I h) fun c s1 ⟨H1, I1, q1⟩ => ?_)
  cases c with
  | true => exact hb wh pins s1 σ H1 Q I1 q1
  | false => exact ⟨H1, I1, q1⟩
theorem pw_or (ha : PT X a tA) (hb : PW X (.BoolOp .Or (b :: rest) pos) tB') : PW X (.BoolOp .Or (a :: b :: rest) pos) (tOr tA tB') := by
  intro wh pins s σ H Q I h
  refine isTrue_or (thn (ha pins s σ H _ I h) fun c s1 ⟨H1, I1, q1⟩ => ?_)
  cases c with
  | true => exact ⟨H1, I1, q1⟩
  | false => exact hb wh pins s1 σ H1 Q I1 q1
theorem pt_not (ha : PT X a tA) : PT X (.UnaryOp .Not a pos) (tNot tA) := by
  intro pins s σ H Q I h
  exact isTrue_not (ha pins s σ H (fun c H1 => Q (!c) H1) I h)
/-- .. as values (bools) -/
def tAndV (ta tb : TE) : TE := fun σ H Q => ta σ H fun x H1 => ∃ c, x = .bl c ∧ if c = true then tb σ H1 Q else Q (.bl false) H1
def tOrV (ta tb : TE) : TE := fun σ H Q => ta σ H fun x H1 => ∃ c, x = .bl c ∧ if c = true then Q (.bl true) H1 else tb σ H1 Q
def tNotV (ta : TE) : TE := fun σ H Q => ta σ H fun x H1 => ∃ c, x = .bl c ∧ Q (.bl (!c)) H1
theorem pe_one {op} {t : TE} (h : PE X a t) : PE X (.BoolOp op [a] pos) t := fun pins s σ H Q I hw => BoolOp_one (h pins s σ H Q I hw)
theorem pe_and (ha : PE X a ta) (hb : PE X (.BoolOp .And (b :: rest) pos) tb) : PE X (.BoolOp .And (a :: b :: rest) pos) (tAndV ta tb) := by
  intro pins s σ H Q I h
  refine BoolOp_and (thn (ha pins s σ H _ I h) fun v s1 ⟨x, H1, I1, r1, q1⟩ => ?_)
  obtain ⟨c, rfl, q1⟩ := q1
  cases r1
  refine wpAny_truthy_bool ?_
  cases c with
  | true => exact hb pins s1 σ H1 Q I1 q1
  | false => exact ⟨.bl false, H1, I1, rfl, q1⟩
theorem pe_or (ha : PE X a ta) (hb : PE X (.BoolOp .Or (b :: rest) pos) tb) : PE X (.BoolOp .Or (a :: b :: rest) pos) (tOrV ta tb) := by
  intro pins s σ H Q I h
  refine BoolOp_or (thn (ha pins s σ H _ I h) fun v s1 ⟨x, H1, I1, r1, q1⟩ => ?_)
  obtain ⟨c, rfl, q1⟩ := q1
  cases r1
  refine wpAny_truthy_bool ?_
  cases c with
  | false => exact hb pins s1 σ H1 Q I1 q1
  | true => exact ⟨.bl true, H1, I1, rfl, q1⟩
theorem pe_not (ha : PE X a ta) : PE X (.UnaryOp .Not a pos) (tNotV ta) := by
  intro pins s σ H Q I h
  refine UnaryOp_ (thn (ha pins s σ H _ I h) fun v s1 ⟨x, H1, I1, r1, q1⟩ => ?_)
  obtain ⟨c, rfl, q1⟩ := q1
  cases r1
  exact not_of (wpAny_truthy_bool ⟨.bl (!c), H1, I1, rfl, q1⟩)
end
end L2

namespace L2
open PySem PySem.Spec PyProof.Rows

/-! ### a list, a tuple that is read: tracked, frozen, or an object of the module -/
def SqL (K : PySem.W.Frag) (H : Hp) (a : Addr) (xs : List V) : Prop :=
  Rd H a (.lst xs) ∨
    ∃ (o : Obj) (its : Array Value) (n : Nat), K.lookup a = some o ∧ o.cls = .type "list" ∧ o.dict = none ∧ o.data = .seq its n ∧ its.size ≤ sizeLine ∧ Vals xs its.toList
def SqT (K : PySem.W.Frag) (H : Hp) (a : Addr) (xs : List V) : Prop :=
  Rd H a (.tup xs) ∨
    ∃ (o : Obj) (its : Array Value) (n : Nat), K.lookup a = some o ∧ o.cls = .type "tuple" ∧ o.data = .seq its n ∧ its.size ≤ sizeLine ∧ Vals xs its.toList
def absV : Value → Option V
  | .none => some .non
  | .bool b => some (.bl b)
  | .int i _ => some (.int i)
  | .str x _ => some (.str x)
  | .bytes b _ => some (.byt b)
  | .float b _ => some (.flt b)
  | .ref a => some (.ref a)
  | .type n => some (.ty n)
  | _ => none
theorem RelV.abs {x : V} {u : Value} (r : RelV x u) : absV u = some x := by
  cases x with
  | non => cases r; rfl
  | bl _ => cases r; rfl
  | int _ => obtain ⟨t, rfl⟩ := r; rfl
  | str _ => obtain ⟨t, rfl⟩ := r; rfl
  | byt _ => obtain ⟨t, rfl⟩ := r; rfl
  | flt _ => obtain ⟨t, rfl⟩ := r; rfl
  | ref _ => cases r; rfl
  | ty _ => cases r; rfl
theorem RelV.inj {x y : V} {u : Value} (r : RelV x u) (q : RelV y u) : x = y := Option.some.inj (r.abs.symm.trans q.abs)
theorem Vals.inj : ∀ {xs ys : List V} {us : List Value}, Vals xs us → Vals ys us → xs = ys
  | _, _, _, .nil, .nil => rfl
  | _, _, _, .cons r t, .cons r' t' => by rw [r.inj r', Vals.inj t t']
section
variable {X : Cx} {pins : List (Addr × Obj)} {σ : St} {H : Hp} {s : Shared} {a : Addr} {xs ys : List V}
theorem SqL.of {K : PySem.W.Frag} (h : H a = some (.lst xs)) : SqL K H a xs := .inl (.inl h)
theorem SqT.of {K : PySem.W.Frag} (h : H a = some (.tup xs)) : SqT K H a xs := .inl (.inl h)
theorem Inv.list (I : Inv X pins σ H s) (h : SqL X.K H a xs) : ∃ its : List Value, Vals xs its ∧ PlainL s.heap a its.toArray ∧ xs.length ≤ sizeLine := by
  rcases h with h | ⟨o, its, n, hk, hc, hd, hs, hz, r⟩
  · obtain ⟨z, its, n, r, e⟩ := h.ok I.hok
    exact ⟨its, r, ⟨_, n, e, rfl, rfl, rfl⟩, z⟩
  · refine ⟨its.toList, r, ⟨o, n, I.kIn a o hk, hc, hd, by simpa using hs⟩, ?_⟩
    have e := r.length
    simp only [Array.length_toList] at e
    omega
theorem Inv.tuple (I : Inv X pins σ H s) (h : SqT X.K H a xs) : ∃ its : List Value, Vals xs its ∧ IsTup s.heap a its.toArray ∧ xs.length ≤ sizeLine := by
  rcases h with h | ⟨o, its, n, hk, hc, hs, hz, r⟩
  · obtain ⟨z, its, r, p⟩ := h.ok I.hok
    exact ⟨its, r, p, z⟩
  · refine ⟨its.toList, r, ⟨o, I.kIn a o hk, hc, n, by simpa using hs⟩, ?_⟩
    have e := r.length
    simp only [Array.length_toList] at e
    omega
theorem Inv.list_inj (I : Inv X pins σ H s) (h : SqL X.K H a xs) (h' : SqL X.K H a ys) : xs = ys := by
  obtain ⟨its, r, ⟨o, n, e, _, _, d⟩, _⟩ := I.list h
  obtain ⟨its', r', ⟨o', n', e', _, _, d'⟩, _⟩ := I.list h'
  rw [e] at e'; cases e'
  rw [d] at d'
  injection d' with d1 _
  have : its = its' := by simpa using congrArg Array.toList d1
  subst this
  exact r.inj r'
end

/-! ### another wish about exceptions -/
abbrev Cx.wish (X : Cx) (E : Value → Shared → Prop) : Cx := { X with xe := E }
/-- no exception leaves -/
abbrev Cx.nox (X : Cx) : Cx := X.wish fun _ _ => False
theorem Cx.Ok.wish {X : Cx} (ok : X.Ok) (E : Value → Shared → Prop) : (X.wish E).Ok :=
  ⟨ok.mod, ok.kind, ok.glob, ok.blt, ok.above, ok.inj, ok.has, ok.cab, ok.hd, ok.frames, ok.stk, ok.exf, ok.bs, ok.bsz, ok.noex, ok.exfs, ok.funs, ok.frf⟩
theorem Cx.Ok.unwish {X : Cx} {E : Value → Shared → Prop} (ok : (X.wish E).Ok) : X.Ok :=
  ⟨ok.mod, ok.kind, ok.glob, ok.blt, ok.above, ok.inj, ok.has, ok.cab, ok.hd, ok.frames, ok.stk, ok.exf, ok.bs, ok.bsz, ok.noex, ok.exfs, ok.funs, ok.frf⟩
section
variable {X : Cx} {pins : List (Addr × Obj)} {σ : St} {H : Hp} {s : Shared} {E : Value → Shared → Prop}
theorem Inv.wish (I : Inv X pins σ H s) (E : Value → Shared → Prop) : Inv (X.wish E) pins σ H s := ⟨I.ok.wish E, I.os, I.bare, I.base, I.loc, I.cell, I.free, I.freeC, I.pin, I.hok, I.len⟩
theorem Inv.unwish (I : Inv (X.wish E) pins σ H s) : Inv X pins σ H s := ⟨I.ok.unwish, I.os, I.bare, I.base, I.loc, I.cell, I.free, I.freeC, I.pin, I.hok, I.len⟩
theorem SP.unwish {D : Ends} {f : Flow} {s' : Shared} (h : SP (X.wish E) pins D f s') : SP X pins D f s' := by
  cases f with
  | next => obtain ⟨σ', H', I, q⟩ := h; exact ⟨σ', H', I.unwish, q⟩
  | brk => obtain ⟨σ', H', I, q⟩ := h; exact ⟨σ', H', I.unwish, q⟩
  | cont => obtain ⟨σ', H', I, q⟩ := h; exact ⟨σ', H', I.unwish, q⟩
  | ret u => obtain ⟨v, σ', H', I, r, q⟩ := h; exact ⟨v, σ', H', I.unwish, r, q⟩
theorem PSs.nox {st : List Stmt} {t : TS} (h : PSs X.nox st t) : PSs X st t := fun pins s σ H D I hw =>
  wpAny_mono (h pins s σ H D (I.wish _) hw) (fun _ _ q => q.unwish) fun _ _ z => False.elim z
end

/-! ### blocks and small statements -/
section
variable {X : Cx} {st : Stmt} {rest : List Stmt} {t u : TS} {e : Expr} {te : TE} {pos : Pos}
def tNext : TS := fun D σ H => D.nx σ H
def tSeq (t u : TS) : TS := fun D σ H => t { D with nx := u D } σ H
theorem pss_nil : PSs X [] tNext := fun _ _ σ H _ I h => wpAny_execs_nil ⟨σ, H, I, h⟩
theorem pss_cons (h1 : PS X st t) (h2 : PSs X rest u) : PSs X (st :: rest) (tSeq t u) := by
  intro pins s σ H D I h
  refine wpAny_execs_cons (thn (h1 pins s σ H { D with nx := u D } I h) fun f s1 q => ?_)
  cases f with
  | next =>
    obtain ⟨σ', H', I', q⟩ := q
    exact h2 pins s1 σ' H' D I' q
  | ret v => exact q
  | brk => exact q
  | cont => exact q
theorem pss_one (h1 : PS X st t) : PSs X [st] t := by
  intro pins s σ H D I h
  refine wpAny_execs_cons (thn (h1 pins s σ H D I h) fun f s1 q => ?_)
  cases f with
  | next => exact wpAny_execs_nil q
  | ret v => exact q
  | brk => exact q
  | cont => exact q
/-- in a def's body nothing is shown -/
theorem Inv.quiet {pins : List (Addr × Obj)} {σ : St} {H : Hp} {s : Shared} (I : Inv X pins σ H s) : interactive X.env = false := by simp [interactive, I.ok.kind]
/-- an expression whose value is dropped -/
def tDrop (te : TE) : TS := fun D σ H => te σ H fun _ H1 => D.nx σ H1
theorem ps_expr (he : PE X e te) (hs : swapsWith e none pos.line X.env = pure false := by rfl) : PS X (.Expr e pos) (tDrop te) := by
  intro pins s σ H D I h
  exact wpAny_Expr_any (thn (he pins s σ H _ I h) fun v s1 ⟨x, H1, I1, r1, q1⟩ => ⟨σ, H1, I1, q1⟩) I.quiet hs
def tRet (te : TE) : TS := fun D σ H => te σ H D.rt
theorem ps_ret (he : PE X e te) : PS X (.Return (some e) pos) (tRet te) := by
  intro pins s σ H D I h
  exact wpAny_Return_some (thn (he pins s σ H _ I h) fun v s1 ⟨x, H1, I1, r1, q1⟩ => ⟨x, σ, H1, I1, r1, q1⟩)
def tIfS (c : TT) (t u : TS) : TS := fun D σ H => c σ H fun b H1 => if b = true then t D σ H1 else u D σ H1
theorem ps_if {c : Expr} {a b : List Stmt} {tc : TT} (hc : PT X c tc) (ha : PSs X a t) (hb : PSs X b u) : PS X (.If c a b pos) (tIfS tc t u) := by
  intro pins s σ H D I h
  refine wpAny_If (thn (hc pins s σ H _ I h) fun d s1 ⟨H1, I1, q1⟩ => ?_)
  cases d with
  | true => exact ha pins s1 σ H1 D I1 q1
  | false => exact hb pins s1 σ H1 D I1 q1
/-- code that the proof never comes to -/
def tNever : TS := fun _ _ _ => False
theorem ps_never : PS X st tNever := fun _ _ _ _ _ _ h => h.elim
end

/-! ### targets -/
abbrev TG := V → St → Hp → (St → Hp → Prop) → Prop
abbrev TGs := List V → St → Hp → (St → Hp → Prop) → Prop
def PG (X : Cx) (target : Expr) (t : TG) : Prop :=
  ∀ (pins : List (Addr × Obj)) (s : Shared) (σ : St) (H : Hp) (v : V) (u : Value) (Q : St → Hp → Prop), Inv X pins σ H s → RelV v u → t v σ H Q →
    wpAny (model X.prog X.w) X.A (assign target X.env u) (fun _ s' => ∃ σ' H', Inv X pins σ' H' s' ∧ Q σ' H') X.xe s
/-- several targets, one after another -/
def PGs (X : Cx) (ts : List Expr) (t : TGs) : Prop :=
  ∀ (pins : List (Addr × Obj)) (s : Shared) (σ : St) (H : Hp) (vs : List V) (us : List Value) (Q : St → Hp → Prop), Inv X pins σ H s → Vals vs us → t vs σ H Q →
    wpAny (model X.prog X.w) X.A (assignInOrder ((assignEach ts X.env).map (·.2)) us) (fun _ s' => ∃ σ' H', Inv X pins σ' H' s' ∧ Q σ' H') X.xe s
/-- o[i] = v, by values -/
abbrev TSet := V → V → V → Hp → (Hp → Prop) → Prop
def PSet (X : Cx) (t : TSet) : Prop :=
  ∀ (pins : List (Addr × Obj)) (s : Shared) (σ : St) (H : Hp) (o i v : V) (ov iv u : Value) (Q : Hp → Prop), Inv X pins σ H s → RelV o ov → RelV i iv → RelV v u → t o i v H Q →
    wpAny (model X.prog X.w) X.A (setItem ov iv u) (fun _ s' => ∃ H', Inv X pins σ H' s' ∧ Q H') X.xe s
/-- a op= b, by values -/
abbrev TIp := V → V → Hp → VK → Prop
def PIp (X : Cx) (op : Operator) (t : TIp) : Prop :=
  ∀ (pins : List (Addr × Obj)) (s : Shared) (σ : St) (H : Hp) (x y : V) (v u : Value) (Q : VK), Inv X pins σ H s → RelV x v → RelV y u → t x y H Q →
    wpAny (model X.prog X.w) X.A (inplaceOp op v u) (EP X pins σ Q) X.xe s
section
variable {X : Cx} {pos : Pos}
def gName (i : Nat) : TG := fun v σ H Q => Q (σ.set i (some v)) H
theorem pg_name {i : Nat} {x : Str} (hN : X.N.Nodup) (hi : X.N[i]? = some x) (hx : Loc X.env.scope x) (hf : X.fn x = true ∨ X.env.scope.names.lookup x = some .local := by first | exact .inl rfl | exact .inr rfl | assumption) : PG X (.Name x pos) (gName i) := by
  intro pins s σ H v u Q I r h
  exact wpAny_assign_Name (store_ok I hN hi hx r (fun s' I' => ⟨_, H, I', h⟩) hf)
def gNil : TGs := fun vs σ H Q => vs = [] ∧ Q σ H
def gCons (t : TG) (u : TGs) : TGs := fun vs σ H Q => ∃ v r, vs = v :: r ∧ t v σ H fun σ' H' => u r σ' H' Q
theorem pgs_nil : PGs X [] gNil := by
  intro pins s σ H vs us Q I r h
  obtain ⟨e, h⟩ := h
  subst e
  cases r
  exact assignInOrder_nil ⟨σ, H, I, h⟩
theorem pgs_cons {e : Expr} {es : List Expr} {t : TG} {u : TGs} (h1 : PG X e t) (h2 : PGs X es u)
    (hs : (assignEach (e :: es) X.env).map (·.2) = assign e X.env :: (assignEach es X.env).map (·.2) := by rfl) : PGs X (e :: es) (gCons t u) := by
  intro pins s σ H vs us Q I r h
  obtain ⟨v, vr, e1, h⟩ := h
  subst e1
  cases r with
  | cons r rr =>
    rw [hs]
    refine assignInOrder_cons (thn (h1 pins s σ H _ _ _ I r h) fun _ s1 ⟨σ1, H1, I1, q1⟩ => ?_)
    exact h2 pins s1 σ1 H1 _ _ Q I1 rr q1
/-- (a, b, ..) = a tuple of that length -/
def gTup (K : PySem.W.Frag) (n : Nat) (t : TGs) : TG := fun v σ H Q => ∃ a xs, v = .ref a ∧ SqT K H a xs ∧ xs.length = n ∧ t xs σ H Q
theorem pg_tup {es : List Expr} {k : Nat} {t : TGs} {n : Nat} (hc : X.calm = true) (h : PGs X es t)
    (hn : (assignEach es X.env).length = n := by rfl) (hst : (assignEach es X.env).findIdx? (·.1) = none := by rfl) : PG X (.Tuple es k pos) (gTup X.K n t) := by
  intro pins s σ H v u Q I r hw
  obtain ⟨a, xs, e1, hq, hl, hw⟩ := hw
  subst e1
  cases r
  obtain ⟨its, rv, ht, hz⟩ := I.tuple hq
  refine assign_Tuple_tuple (I.ok.hd hc) ht (by simp [hn, ← hl, rv.length]) hst fun h' hx => ?_
  have I1 : Inv X pins σ H { s with heap := h' } := I.kept (t' := s.toks) fun b o e => hx b o (Nat.ne_of_lt (Heap.lt_size e)) e
  exact h pins _ σ H xs _ Q I1 (by simpa using rv) hw
/-- o[i] = .. -/
def gSub (to ti : TE) (t : TSet) : TG := fun v σ H Q => to σ H fun o H1 => ti σ H1 fun i H2 => t o i v H2 fun H3 => Q σ H3
theorem pg_sub {o i : Expr} {to ti : TE} {t : TSet} (ho : PE X o to) (hi : PE X i ti) (hs : PSet X t)
    (ha : ∀ v, assign (.Subscript o i pos) X.env v = (do
      let ov ← holding [v] (eval o X.env)
      let iv ← holding [v, ov] (eval i X.env)
      standAt pos
      holding [v, ov, iv] (setItem ov iv v)
      release [v, ov, iv] []) := by intro _; rfl) : PG X (.Subscript o i pos) (gSub to ti t) := by
  intro pins s σ H v u Q I r h
  rw [ha]
  refine wpAny_bind (wpAny_holding (thn (ho pins s σ H _ I h) fun ov s1 ⟨x, H1, I1, r1, q1⟩ => ?_))
  refine wpAny_bind (wpAny_holding (thn (hi pins s1 σ H1 _ I1 q1) fun iv s2 ⟨y, H2, I2, r2, q2⟩ => ?_))
  refine wpAny_bind (wpAny_standAt (wpAny_bind (wpAny_holding (thn (hs pins s2 σ H2 x y v ov iv u _ I2 r1 r2 r q2) fun _ s3 ⟨H3, I3, q3⟩ => ?_))))
  exact wpAny_release ⟨σ, H3, I3, q3⟩
/-- target = value -/
def tAsg (te : TE) (g : TG) : TS := fun D σ H => te σ H fun x H1 => g x σ H1 D.nx
theorem ps_asg {tg e : Expr} {te : TE} {g : TG} (he : PE X e te) (hg : PG X tg g) (hs : swapsWithSole [tg] e pos.line X.env = pure false := by rfl) (hw : swappedStores [tg] e X.env = pure none := by rfl)
    (h1 : (assignEach [tg] X.env).map (·.2) = [assign tg X.env] := by rfl) : PS X (.Assign [tg] e pos) (tAsg te g) := by
  intro pins s σ H D I h
  refine wpAny_Assign_stores (thn (he pins s σ H _ I h) fun v s1 ⟨x, H1, I1, r1, q1⟩ => ?_) hs hw
  rw [h1]
  exact thn (hg pins s1 σ H1 x v _ I1 r1 q1) fun _ s2 q => q
/-- name = value -/
theorem ps_set {i : Nat} {x : Str} {e : Expr} {te : TE} {pos' : Pos} (hN : X.N.Nodup) (hi : X.N[i]? = some x) (hx : Loc X.env.scope x) (he : PE X e te) (hs : swapsWith e (some (.Name x pos')) pos.line X.env = pure false := by rfl) (hf : X.fn x = true ∨ X.env.scope.names.lookup x = some .local := by first | exact .inl rfl | exact .inr rfl | assumption) :
    PS X (.Assign [.Name x pos'] e pos) (tAsg te (gName i)) := by
  intro pins s σ H D I h
  refine wpAny_Assign_Name (thn (he pins s σ H _ I h) fun v s1 ⟨y, H1, I1, r1, q1⟩ => ?_) hs
  exact store_ok I1 hN hi hx r1 (fun s2 I2 => ⟨_, H1, I2, q1⟩) hf
/-- name op= e -/
def tAug (i : Nat) (te : TE) (ti : TIp) : TS := fun D σ H => ∃ x, σ[i]? = some (some x) ∧ te σ H fun y H1 => ti x y H1 fun z H2 => D.nx (σ.set i (some z)) H2
theorem ps_aug {i : Nat} {x : Str} {e : Expr} {te : TE} {op : Operator} {ti : TIp} {pos' : Pos} (hN : X.N.Nodup) (hi : X.N[i]? = some x) (hx : Loc X.env.scope x) (he : PE X e te) (ho : PIp X op ti) (hf : X.fn x = true ∨ X.env.scope.names.lookup x = some .local := by first | exact .inl rfl | exact .inr rfl | assumption) :
    PS X (.AugAssign (.Name x pos') op e pos) (tAug i te ti) := by
  intro pins s σ H D I h
  obtain ⟨v, e1, h⟩ := h
  obtain ⟨m, hn, hl⟩ := I.loc
  have vis : Vis X.env.scope x := by rcases hx with k | k; exact .inl k; exact .inr (.inl k)
  obtain ⟨u, r, l⟩ := hl i x v hi e1 vis
  refine wpAny_AugAssign_Name ?_
  have go : wpAny (model X.prog X.w) X.A (eval e X.env) (fun w s₂ => wpAny (model X.prog X.w) X.A (inplaceOp op u w) (fun r s₃ => wpAny (model X.prog X.w) X.A (storeName X.env x r) (fun _ => SP X pins D .next) X.xe s₃) X.xe s₂) X.xe s := by
    refine thn (he pins s σ H _ I h) fun w s1 ⟨y, H1, I1, r1, q1⟩ => ?_
    refine thn (ho pins s1 σ H1 v y u w _ I1 r r1 q1) fun z s2 ⟨zv, H2, I2, r2, q2⟩ => ?_
    exact store_ok I2 hN hi hx r2 (fun s3 I3 => ⟨_, H2, I3, q2⟩) hf
  rcases l with ⟨hk, hm⟩ | ⟨hk, c, hc, hcell⟩
  · exact wpAny_loadName_local I.ok.kind hk hn hm go
  · rcases hk with hk | hk
    · exact wpAny_loadName_cell I.ok.kind hk hc hcell go
    · rcases hx with k | k
      · have : X.env.scope.names.lookup x = some .free := hk
        rw [k] at this; cases this
      · have : X.env.scope.names.lookup x = some .free := hk
        rw [k] at this; cases this
/-- ints -/
def ipI (f : Int → Int → Int) : TIp := fun x y H Q => ∃ i j, x = .int i ∧ y = .int j ∧ Q (.int (f i j)) H
theorem ip_add : PIp X .Add (ipI fun i j => i + j) := by
  intro pins s σ H x y v u Q I r1 r2 h
  obtain ⟨i, j, e1, e2, q⟩ := h
  subst e1; subst e2
  obtain ⟨t, rfl⟩ := r1
  obtain ⟨t', rfl⟩ := r2
  exact iadd_int ⟨.int _, H, I.tok _, ⟨_, rfl⟩, q⟩
end

/-! ### while -/
section
variable {X : Cx} {pos : Pos}
/-- the invariant W with its measure -/
def tWhile (c : TT) (tb : TS) : TS := fun D σ H => ∃ W : Nat → St → Hp → Prop, (∃ m, W m σ H) ∧ ∀ m σ H, W m σ H →
  c σ H fun b H1 => if b = true then ∃ N : St → Hp → Prop, (∀ σ' H', N σ' H' → ∃ m', m' < m ∧ W m' σ' H') ∧ tb { D with nx := N, ct := N, bk := D.nx } σ H1 else D.nx σ H1
theorem ps_while {c : Expr} {body : List Stmt} {tc : TT} {tb : TS} (hp : PassesOwn (model X.prog X.w) X.A X.env X.xe) (hc : PT X c tc) (hb : PSs X body tb) : PS X (.While c body [] pos) (tWhile tc tb) := by
  intro pins s σ H D I h
  obtain ⟨W, ⟨m0, w0⟩, turn⟩ := h
  refine wpAny_While (codeAny_whileLoop (fun n s' => ∃ σ' H', Inv X pins σ' H' s' ∧ W n σ' H') ?_ m0 ⟨σ, H, I, w0⟩)
  rintro n s1 ⟨σ1, H1, I1, w1⟩
  refine wpAny_passesOwn hp (thn (hc pins s1 σ1 H1 _ I1 (turn n σ1 H1 w1)) fun b s2 ⟨H2, I2, q2⟩ => ?_)
  cases b with
  | true =>
    obtain ⟨N, hN, q2⟩ := q2
    rw [if_pos rfl]
    refine wpAny_passesOwn hp (thn (hb pins s2 σ1 H2 _ I2 q2) fun f s3 q3 => ?_)
    cases f with
    | next =>
      obtain ⟨σ3, H3, I3, n3⟩ := q3
      obtain ⟨m', hm, w3⟩ := hN σ3 H3 n3
      exact ⟨m', hm, σ3, H3, I3, w3⟩
    | cont =>
      obtain ⟨σ3, H3, I3, n3⟩ := q3
      obtain ⟨m', hm, w3⟩ := hN σ3 H3 n3
      exact ⟨m', hm, σ3, H3, I3, w3⟩
    | brk => exact q3
    | ret v => exact q3
  | false =>
    rw [if_neg Bool.false_ne_true]
    exact wpAny_execs_nil ⟨σ1, H2, I2, q2⟩
end

/-! ### what a loop or a comprehension walks -/
/-- at turn i: it yields x (the heap may grow), or it stops -/
structure It where
  go : Nat → Hp → Prop
  yld : Nat → Hp → V → Hp → Prop
  stop : Nat → Hp → Prop
/-- the iterator's own objects may turn: they are not the frame's, not pinned, younger than the entry (or a comprehension's own) -/
def FpOk (X : Cx) (pins : List (Addr × Obj)) (H : Hp) (b : Addr) : Prop :=
  H b = none ∧ b ≠ X.env.locals ∧ b ∉ X.fs ∧ (b ∈ X.ex ∨ X.s₀.heap.objs.size ≤ b) ∧ (∀ x c, X.env.cells.lookup x = some c → c ≠ b) ∧ ∀ p ∈ X.pn ++ pins, p.1 ≠ b
theorem Inv.fpOk {X : Cx} {pins : List (Addr × Obj)} {σ : St} {H H' : Hp} {s : Shared} {b : Addr} (I : Inv X pins σ H s) (hb : s.heap.objs.size ≤ b) (hn : H' b = none) : FpOk X pins H' b := by
  refine ⟨hn, Nat.ne_of_gt (Nat.lt_of_lt_of_le I.lt hb), I.nofs hb, .inr (Nat.le_trans I.sz hb), fun x c e z => ?_, fun p hp z => ?_⟩
  · obtain ⟨v, q⟩ := I.cell x c e
    exact absurd (Nat.lt_of_lt_of_le q.lt (by rw [z]; exact hb)) (Nat.lt_irrefl _)
  · exact absurd (Nat.lt_of_lt_of_le (Heap.lt_size (I.pin p hp).1) (by rw [z]; exact hb)) (Nat.lt_irrefl _)
structure Turn (P : Program) (w : World) (K : PySem.W.Frag) (tg : Expr) (J : It) (fp : List Addr) (it : Addr) (tn : Nat → Heap → Prop) : Prop where
  mem : it ∈ fp
  obj : ∀ i h, tn i h → ∀ b ∈ fp, ∃ o, h.get? b = some o ∧ ∀ v, o.data ≠ .cell v
  keep : ∀ i h h', tn i h → (∀ b ∈ fp, ∀ o, h.get? b = some o → h'.get? b = some o) → tn i h'
  item : ∀ (X : Cx), X.prog = P → X.w = w → X.K = K → X.calm = true → ∀ (i : Nat) (pins : List (Addr × Obj)) (s : Shared) (σ : St) (H : Hp) (E : Value → Shared → Prop), Inv X pins σ H s → (∀ b ∈ fp, FpOk X pins H b) → tn i s.heap → J.go i H →
    wpAny (model P w) X.A (pyNext (.ref it)) (fun r s1 => ∃ u, r = some u ∧
      wpAny (model P w) X.A (letOwnedTupleGo tg (.ref it) u) (fun _ s2 => ∃ x H', Inv X pins σ H' s2 ∧ RelV x u ∧ J.yld i H x H' ∧ tn (i + 1) s2.heap ∧ ∀ b ∈ fp, H' b = none) E s1) E s
  done : ∀ (X : Cx), X.prog = P → X.w = w → X.K = K → X.calm = true → ∀ (i : Nat) (pins : List (Addr × Obj)) (s : Shared) (σ : St) (H : Hp) (E : Value → Shared → Prop), Inv X pins σ H s → (∀ b ∈ fp, FpOk X pins H b) → tn i s.heap → J.stop i H →
    wpAny (model P w) X.A (pyNext (.ref it)) (fun r s1 => r = none ∧ Inv X pins σ H s1) E s
  self : ∀ (A : Around) (i : Nat) (s : Shared) (Q : Value → Shared → Prop) (E : Value → Shared → Prop), tn i s.heap → Q (.ref it) s → wpAny (model P w) A (pyIter (.ref it)) Q E s
abbrev TI := St → Hp → (It → Hp → Prop) → Prop
/-- an iterator has come -/
def PIE (X : Cx) (pins : List (Addr × Obj)) (σ : St) (tg : Expr) (R : It → Hp → Prop) (itv : Value) (s2 : Shared) : Prop :=
  ∃ (it : Addr) (fp : List Addr) (tn : Nat → Heap → Prop) (J : It) (H' : Hp), itv = .ref it ∧ Inv X pins σ H' s2 ∧ Turn X.prog X.w X.K tg J fp it tn ∧ tn 0 s2.heap ∧ (∀ b ∈ fp, FpOk X pins H' b) ∧ R J H'
def PI (X : Cx) (tg iter : Expr) (wi : TI) : Prop :=
  ∀ (pins : List (Addr × Obj)) (s : Shared) (σ : St) (H : Hp) (R : It → Hp → Prop), Inv X pins σ H s → wi σ H R →
    wpAny (model X.prog X.w) X.A (eval iter X.env) (fun v s1 => wpAny (model X.prog X.w) X.A (pyIter v) (PIE X pins σ tg R) X.xe s1) X.xe s

/-- the step ahead of the store is nothing for an iterator that keeps no tuple -/
theorem go_of {M : Model} {A : Around} {E : Value → Shared → Prop} {s : Shared} {tg : Expr} {it : Addr} {u : Value} {o : Obj} {n : String} {vs : Array Value} {Q : Unit → Shared → Prop} (ho : s.heap.get? it = some o) (hc : o.cls = .type n) (hd : o.data = .fields vs)
    (hn : ["enumerate", "zip", "dict_itemiterator", "dict_reverseitemiterator", "odict_iterator", "itertools.zip_longest", "itertools.pairwise"].contains n = false) (hQ : Q () s) : wpAny M A (letOwnedTupleGo tg (.ref it) u) Q E s := by
  unfold letOwnedTupleGo
  cases tg <;> first
    | exact wpAny_pure hQ
    | (cases u <;> first
        | exact wpAny_pure hQ
        | (refine wpAny_bind (wpAny_load ho ?_)
           rw [hc, hd]
           show wpAny M A (if (["enumerate", "zip", "dict_itemiterator", "dict_reverseitemiterator", "odict_iterator", "itertools.zip_longest", "itertools.pairwise"].contains n && vs[0]? == some (rawInt _)) = true then _ else _) Q E s
           rw [if_neg (by intro h; rw [hn, Bool.false_and] at h; cases h)]
           exact wpAny_pure hQ))

/-- the list at a, as it stands at each turn (a loop may append to it) -/
def Itl (K : PySem.W.Frag) (a : Addr) : It :=
  ⟨fun i H => ∃ xs x, SqL K H a xs ∧ xs[i]? = some x, fun i H x H' => H' = H ∧ ∀ xs, SqL K H a xs → xs[i]? = some x, fun i H => ∃ xs, SqL K H a xs ∧ xs.length ≤ i⟩
/-- lo, lo + 1, .. (n of them) -/
def Itr (lo : Int) (n : Nat) : It := ⟨fun i _ => i < n, fun i H x H' => H' = H ∧ x = .int (lo + i), fun i _ => n ≤ i⟩
theorem turn_list {P : Program} {w : World} {K : PySem.W.Frag} {tg : Expr} (a it : Addr) : Turn P w K tg (Itl K a) [it] it (fun i h => h.IsListIter it a i) where
  mem := by simp
  obj := fun i h st b hb => by
    have e : b = it := by simpa using hb
    subst e
    obtain ⟨o, e, c, d⟩ := st
    exact ⟨o, e, fun v z => by rw [d] at z; cases z⟩
  keep := fun i h h' st k => st.at fun o e => k it (by simp) o e
  item := by
    intro X hP hw hK hc i pins s σ H E I hf st hg
    subst hP hw hK
    obtain ⟨xs, x, hq, hx⟩ := hg
    obtain ⟨its, rv, p, hz⟩ := I.list hq
    obtain ⟨u, hu, ru⟩ := rv.get hx
    obtain ⟨f0, f1, f2, f3, f4, f5⟩ := hf it (by simp)
    refine wpAny_pyNext_list_item st p.isList (x := u) (by simpa using hu) fun h' st' sb => ?_
    have I1 : Inv X pins σ H { s with heap := h' } := I.turned (t' := s.toks) (fun b o hb e => (sb.2 b hb).trans e) f0 f1 f3 f4 f5
    obtain ⟨o, e, c, d⟩ := id st'
    exact ⟨u, rfl, go_of (s := { s with heap := h' }) e c d (by decide) ⟨x, H, I1, ru, ⟨rfl, fun ys hy => by rw [I.list_inj hy hq]; exact hx⟩, st', fun b hb => (hf b hb).1⟩⟩
  done := by
    intro X hP hw hK hc i pins s σ H E I hf st hg
    subst hP hw hK
    obtain ⟨xs, hq, hx⟩ := hg
    obtain ⟨its, rv, p, hz⟩ := I.list hq
    obtain ⟨f0, f1, f2, f3, f4, f5⟩ := hf it (by simp)
    have hl := rv.length
    exact wpAny_pyNext_list_end (I.ok.hd hc) st p.isList (by simp; omega) fun h' eb => ⟨rfl, I.turned (t' := s.toks) (fun b o hb e => eb b o hb e) f0 f1 f3 f4 f5⟩
  self := fun _ _ _ _ _ st h => wpAny_pyIter_listiter st h
theorem turn_range {P : Program} {w : World} {K : PySem.W.Frag} {tg : Expr} (it : Addr) (lo : Int) (n : Nat) : Turn P w K tg (Itr lo n) [it] it (fun i h => IsRangeIter h it (lo + (i : Nat) * 1) ((n : Int) - (i : Nat)) 1) where
  mem := by simp
  obj := fun i h st b hb => by
    have e : b = it := by simpa using hb
    subst e
    exact ⟨_, st, fun v z => by
      have z' : Data.fields _ = Data.cell v := z
      cases z'⟩
  keep := fun i h h' st k => k it (by simp) _ st
  item := by
    intro X hP hw hK hc i pins s σ H E I hf st hg
    subst hP hw hK
    obtain ⟨f0, f1, f2, f3, f4, f5⟩ := hf it (by simp)
    have W := Walks.range (prog := X.prog) (w := X.w) (I.ok.hd hc) it lo 1 n
    refine W.item i s _ _ hg st fun v h' tk hv st' kk => ?_
    obtain ⟨t, rfl⟩ := hv
    have I1 : Inv X pins σ H { s with heap := h', toks := tk } := I.turned (fun b o hb e => kk b o (by simpa using hb) e) f0 f1 f3 f4 f5
    refine ⟨_, rfl, go_of (s := { s with heap := h', toks := tk }) (n := "range_iterator") st' rfl rfl (by decide) ⟨.int (lo + i), H, I1, ⟨t, ?_⟩, ⟨rfl, rfl⟩, st', fun b hb => (hf b hb).1⟩⟩
    rw [Int.mul_one]
  done := by
    intro X hP hw hK hc i pins s σ H E I hf st hg
    subst hP hw hK
    obtain ⟨f0, f1, f2, f3, f4, f5⟩ := hf it (by simp)
    exact wpAny_pyNext_range_end (I.ok.hd hc) st (by have : n ≤ i := hg; omega) fun h' eb => ⟨rfl, I.turned (t' := s.toks) (fun b o hb e => eb b o hb e) f0 f1 f3 f4 f5⟩
  self := fun _ _ _ _ _ st h => wpAny_pyIter_rangeiter st h
end L2

namespace L2
open PySem PySem.Spec PyProof.Rows
section
variable {X : Cx} {tg : Expr}
def iList (K : PySem.W.Frag) (tl : TE) : TI := fun σ H R => tl σ H fun x H1 => ∃ a, x = .ref a ∧ (∃ xs, SqL K H1 a xs) ∧ R (Itl K a) H1
theorem pi_list {l : Expr} {tl : TE} (hl : PE X l tl) : PI X tg l (iList X.K tl) := by
  intro pins s σ H R I h
  refine thn (hl pins s σ H _ I h) fun v s1 ⟨x, H1, I1, r1, q1⟩ => ?_
  obtain ⟨a, e, ⟨xs, hq⟩, q⟩ := q1
  subst e
  cases r1
  obtain ⟨its, rv, p, hz⟩ := I1.list hq
  refine wpAny_pyIter_list p.isList ?_
  refine ⟨s1.heap.objs.size, [s1.heap.objs.size], _, _, H1, rfl, I1.kept (t' := s1.toks) fun b o e => Heap.get?_push_of_some _ e, turn_list a _, ⟨_, Heap.get?_push_size _ rfl, rfl, rfl⟩, fun b hb => ?_, q⟩
  have e : b = s1.heap.objs.size := by simpa using hb
  subst e
  exact I1.fpOk (Nat.le_refl _) (I1.hok.fresh (Nat.le_refl _))
/-- a range object just made, walked -/
theorem range_it {pins : List (Addr × Obj)} {σ : St} {H : Hp} {s : Shared} {R : It → Hp → Prop} {E : Value → Shared → Prop} {lo hi : Int} {t u v : Tok} {tk : Nat} (I : Inv X pins σ H s) (h1 : -(2 ^ 62) ≤ lo) (h2 : lo < 2 ^ 62) (h3 : -(2 ^ 62) ≤ hi) (h4 : hi < 2 ^ 62)
    (q : R (Itr lo (hi - lo).toNat) H) : wpAny (model X.prog X.w) X.A (pyIter (.ref s.heap.objs.size)) (PIE X pins σ tg R) E { s with heap := s.heap.push { cls := .type "range", data := .fields #[.int lo t, .int hi u, .int 1 v] }, toks := tk } := by
  refine wpAny_pyIter_range (IsRange.new ..) (small_one h1 h2 h3 h4) ?_
  have I1 : Inv X pins σ H { s with heap := s.heap.push { cls := .type "range", data := .fields #[.int lo t, .int hi u, .int 1 v] }, toks := tk } := I.kept fun b o e => Heap.get?_push_of_some _ e
  refine ⟨(s.heap.push { cls := .type "range", data := .fields #[.int lo t, .int hi u, .int 1 v] }).objs.size, [(s.heap.push { cls := .type "range", data := .fields #[.int lo t, .int hi u, .int 1 v] }).objs.size], _, _, H, rfl,
    I1.kept (t' := tk) fun b o e => Heap.get?_push_of_some _ e, turn_range _ lo (hi - lo).toNat, ?_, fun b hb => ?_, q⟩
  · have e1 : lo + ((0 : Nat) : Int) * 1 = lo := by simp
    have e2 : (((hi - lo).toNat : Nat) : Int) - ((0 : Nat) : Int) = Builtin.Range.rangeSize lo hi 1 := by rw [rangeSize_one]; split <;> omega
    show IsRangeIter _ _ (lo + ((0 : Nat) : Int) * 1) ((((hi - lo).toNat : Nat) : Int) - ((0 : Nat) : Int)) 1
    rw [e1, e2]
    exact Heap.get?_push_size _ rfl
  · have e : b = (s.heap.push { cls := .type "range", data := .fields #[.int lo t, .int hi u, .int 1 v] }).objs.size := by simpa using hb
    subst e
    exact I1.fpOk (Nat.le_refl _) (I1.hok.fresh (Nat.le_refl _))
def iRng1 (ta : TA) : TI := fun σ H R => ta σ H fun vs H1 => ∃ j : Int, vs = [.int j] ∧ -(2 ^ 62) ≤ j ∧ j < 2 ^ 62 ∧ R (Itr 0 j.toNat) H1
def iRng2 (ta : TA) : TI := fun σ H R => ta σ H fun vs H1 => ∃ i j : Int, vs = [.int i, .int j] ∧ (-(2 ^ 62) ≤ i ∧ i < 2 ^ 62 ∧ -(2 ^ 62) ≤ j ∧ j < 2 ^ 62) ∧ R (Itr i (j - i).toNat) H1
theorem pi_range1 {a : Expr} {ta : TA} {p pos : Pos} (hg : Gl X "range") (hm : X.mg "range" = none) (ha : PA X [a] ta) (hs : starEach [a] X.env = [(false, eval a X.env)] := by rfl) : PI X tg (.Call (.Name "range" p) [a] [] pos) (iRng1 ta) := by
  intro pins s σ H R I h
  refine Call_ (ld_blt I hg hm boot_range (PyProof.Rows.callWith_type1 (thn (ha pos pins s σ H _ I h) fun us s1 ⟨vs, H1, I1, r1, q1⟩ => ?_) hs rfl))
  obtain ⟨j, e, q1, q2, q⟩ := q1
  subst e
  cases r1 with
  | cons r rr =>
    cases rr
    obtain ⟨t, rfl⟩ := r
    exact call_range_1 (range_it I1 (by omega) (by omega) q1 q2 (by simpa using q))
theorem pi_range2 {a b : Expr} {ta : TA} {p pos : Pos} (hg : Gl X "range") (hm : X.mg "range" = none) (ha : PA X [a, b] ta) (hs : starEach [a, b] X.env = [(false, eval a X.env), (false, eval b X.env)] := by rfl) (hs2 : starEach [b] X.env = [(false, eval b X.env)] := by rfl) :
    PI X tg (.Call (.Name "range" p) [a, b] [] pos) (iRng2 ta) := by
  intro pins s σ H R I h
  refine Call_ (ld_blt I hg hm boot_range (PyProof.Rows.callWith_type1 (thn (ha pos pins s σ H _ I h) fun us s1 ⟨vs, H1, I1, r1, q1⟩ => ?_) (by rw [hs, hs2]) (by rw [hs2]; rfl)))
  obtain ⟨i, j, e, ⟨q1, q2, q3, q4⟩, q⟩ := q1
  subst e
  cases r1 with
  | cons r rr =>
    cases rr with
    | cons r' rr =>
      cases rr
      obtain ⟨t, rfl⟩ := r
      obtain ⟨t', rfl⟩ := r'
      exact call_range_2 (range_it I1 q1 q2 q3 q4 q)

/-! ### for -/
/-- W: the invariant by the turn and a measure; N: what the body is to reach -/
def tFor (wi : TI) (g : TG) (tb : TS) : TS := fun D σ H => wi σ H fun J H1 => ∃ W : Nat → Nat → St → Hp → Prop, (∃ m, W 0 m σ H1) ∧ ∀ i m σ H, W i m σ H →
  (J.stop i H ∧ D.nx σ H) ∨ (J.go i H ∧ ∃ N : St → Hp → Prop, (∀ σ' H', N σ' H' → ∃ m', m' < m ∧ W (i + 1) m' σ' H') ∧ ∀ x H', J.yld i H x H' → g x σ H' fun σ2 H2 => tb { D with nx := N, ct := N, bk := D.nx } σ2 H2)
/-- the records at fp as they stand -/
def pinsAt (fp : List Addr) (h : Heap) : List (Addr × Obj) := fp.filterMap fun b => (h.get? b).map fun o => (b, o)
theorem mem_pinsAt {fp : List Addr} {h : Heap} {b : Addr} {o : Obj} (hb : b ∈ fp) (e : h.get? b = some o) : (b, o) ∈ pinsAt fp h := List.mem_filterMap.mpr ⟨b, hb, by rw [e]; rfl⟩
theorem of_pinsAt {fp : List Addr} {h : Heap} {p : Addr × Obj} (hp : p ∈ pinsAt fp h) : p.1 ∈ fp ∧ h.get? p.1 = some p.2 := by
  obtain ⟨b, hb, e⟩ := List.mem_filterMap.mp hp
  cases q : h.get? b with
  | none => rw [q] at e; cases e
  | some o =>
    rw [q] at e
    have e' : (b, o) = p := Option.some.inj e
    subst e'
    exact ⟨hb, q⟩
theorem Inv.pinned {pins : List (Addr × Obj)} {σ : St} {H : Hp} {s : Shared} {fp : List Addr} (I : Inv X pins σ H s) (hf : ∀ b ∈ fp, FpOk X pins H b) (ho : ∀ b ∈ fp, ∃ o, s.heap.get? b = some o ∧ ∀ v, o.data ≠ .cell v) : Inv X (pins ++ pinsAt fp s.heap) σ H s :=
  I.pins_of fun p hp => (List.mem_append.mp hp).elim (fun z => I.pin p (List.mem_append_right _ z)) fun z => by
    obtain ⟨hb, e⟩ := of_pinsAt z
    obtain ⟨f0, f1, f2, _⟩ := hf p.1 hb
    obtain ⟨o, e', d⟩ := ho p.1 hb
    rw [e] at e'; cases e'
    exact ⟨e, f0, f1, f2, d⟩
theorem Inv.unpinned {pins pl : List (Addr × Obj)} {σ : St} {H : Hp} {s : Shared} (I : Inv X (pins ++ pl) σ H s) : Inv X pins σ H s := I.pins_of fun p hp => I.pin p (List.mem_append_right _ (List.mem_append_left _ hp))
theorem ps_for {iter : Expr} {body : List Stmt} {wi : TI} {g : TG} {tb : TS} {pos : Pos} (hp : PassesOwn (model X.prog X.w) X.A X.env X.xe) (hc : X.calm = true) (hi : PI X tg iter wi) (hg : PG X tg g) (hb : PSs X body tb)
    (hs : ∀ x, foldedSetIterable iter X.env x = pure x := by intro _; rfl) : PS X (.For tg iter body [] pos) (tFor wi g tb) := by
  intro pins s σ H D I h
  refine wpAny_For (thn (hi pins s σ H _ I h) fun v s1 h1 => thn h1 fun itv s2 h2 => ?_) hs
  obtain ⟨it, fp, tn, J, H2, e, I2, T, st2, f2, W, ⟨m0, w0⟩, turn⟩ := h2
  subst e
  -- what stays true of the iterator's objects through the loop
  have stat : ∀ {H' : Hp}, (∀ b ∈ fp, H' b = none) → ∀ b ∈ fp, FpOk X pins H' b := fun hn b hb => ⟨hn b hb, (f2 b hb).2⟩
  refine codeAny_forLoop_any (fun n s' => ∃ i σ' H', Inv X pins σ' H' s' ∧ tn i s'.heap ∧ (∀ b ∈ fp, H' b = none) ∧ W i n σ' H') ?_ m0 ⟨0, σ, H2, I2, st2, fun b hb => (f2 b hb).1, w0⟩
  rintro n s3 ⟨i, σ3, H3, I3, st3, fr3, w3⟩
  rcases turn i n σ3 H3 w3 with ⟨stop, qn⟩ | ⟨go, N, hN, step⟩
  · refine wpAny_passesOwn hp (thn (T.done X rfl rfl rfl hc i pins s3 σ3 H3 X.xe I3 (stat fr3) st3 stop) fun r s4 ⟨hr, I4⟩ => ?_)
    subst hr
    exact wpAny_execs_nil ⟨σ3, H3, I4, qn⟩
  · refine wpAny_passesOwn hp (thn (T.item X rfl rfl rfl hc i pins s3 σ3 H3 X.xe I3 (stat fr3) st3 go) fun r s4 ⟨u, hr, h4⟩ => ?_)
    subst hr
    refine wpAny_passesOwn hp (thn h4 fun _ s5 ⟨x, H5, I5, r5, y5, st5, fr5⟩ => ?_)
    have I5' := I5.pinned (stat fr5) (T.obj _ _ st5)
    refine wpAny_passesOwn hp (thn (hg _ s5 σ3 H5 x u _ I5' r5 (step x H5 y5)) fun _ s6 ⟨σ6, H6, I6, q6⟩ => ?_)
    refine wpAny_passesOwn hp (thn (hb _ s6 σ6 H6 _ I6 q6) fun f s7 q7 => ?_)
    have again : ∀ {σ7 : St} {H7 : Hp}, Inv X (pins ++ pinsAt fp s5.heap) σ7 H7 s7 → N σ7 H7 → ∃ m, m < n ∧ ∃ i σ' H', Inv X pins σ' H' s7 ∧ tn i s7.heap ∧ (∀ b ∈ fp, H' b = none) ∧ W i m σ' H' := fun {σ7 H7} I7 n7 => by
      obtain ⟨m', hm, w7⟩ := hN σ7 H7 n7
      refine ⟨m', hm, i + 1, σ7, H7, I7.unpinned, T.keep _ _ _ st5 fun b hb o e => (I7.pin (b, o) (List.mem_append_right _ (List.mem_append_right _ (mem_pinsAt hb e)))).1, fun b hb => ?_, w7⟩
      obtain ⟨o, e, d⟩ := T.obj _ _ st5 b hb
      exact (I7.pin (b, o) (List.mem_append_right _ (List.mem_append_right _ (mem_pinsAt hb e)))).2.1
    cases f with
    | next => obtain ⟨σ7, H7, I7, n7⟩ := q7; exact again I7 n7
    | cont => obtain ⟨σ7, H7, I7, n7⟩ := q7; exact again I7 n7
    | brk => obtain ⟨σ7, H7, I7, q7⟩ := q7; exact ⟨σ7, H7, I7.unpinned, q7⟩
    | ret v => obtain ⟨x7, σ7, H7, I7, r7, q7⟩ := q7; exact ⟨x7, σ7, H7, I7.unpinned, r7, q7⟩
end

/-! ### the forms one uses -/
/-- over a list that the body leaves as it is -/
theorem for_list {K : PySem.W.Frag} {a : Addr} {xs : List V} {g : TG} {tb : TS} {D : Ends} {σ : St} {H : Hp} (Pv : Nat → St → Hp → Prop) (h0 : Pv 0 σ H) (hl : ∀ i σ H, i ≤ xs.length → Pv i σ H → SqL K H a xs)
    (hs : ∀ i x σ H, xs[i]? = some x → Pv i σ H → g x σ H fun σ2 H2 => tb { D with nx := Pv (i + 1), ct := Pv (i + 1), bk := D.nx } σ2 H2) (hd : ∀ σ H, Pv xs.length σ H → D.nx σ H) :
    ∃ W : Nat → Nat → St → Hp → Prop, (∃ m, W 0 m σ H) ∧ ∀ i m σ H, W i m σ H →
      ((Itl K a).stop i H ∧ D.nx σ H) ∨ ((Itl K a).go i H ∧ ∃ N : St → Hp → Prop, (∀ σ' H', N σ' H' → ∃ m', m' < m ∧ W (i + 1) m' σ' H') ∧ ∀ x H', (Itl K a).yld i H x H' → g x σ H' fun σ2 H2 => tb { D with nx := N, ct := N, bk := D.nx } σ2 H2) := by
  refine ⟨fun i m σ H => m = xs.length - i ∧ i ≤ xs.length ∧ Pv i σ H, ⟨xs.length, by simp, Nat.zero_le _, h0⟩, ?_⟩
  rintro i m σ H ⟨rfl, hi, p⟩
  have q := hl i σ H hi p
  by_cases hlt : i < xs.length
  · refine .inr ⟨⟨xs, xs[i], q, by simp [hlt]⟩, Pv (i + 1), fun σ' H' p' => ⟨xs.length - (i + 1), by omega, rfl, hlt, p'⟩, fun x H' y => ?_⟩
    obtain ⟨e, y⟩ := y
    subst e
    exact hs i x σ _ (y xs q) p
  · have e : i = xs.length := by omega
    subst e
    exact .inl ⟨⟨xs, q, Nat.le_refl _⟩, hd σ H p⟩
theorem for_range {lo : Int} {n : Nat} {g : TG} {tb : TS} {D : Ends} {σ : St} {H : Hp} (Pv : Nat → St → Hp → Prop) (h0 : Pv 0 σ H)
    (hs : ∀ i σ H, i < n → Pv i σ H → g (.int (lo + i)) σ H fun σ2 H2 => tb { D with nx := Pv (i + 1), ct := Pv (i + 1), bk := D.nx } σ2 H2) (hd : ∀ σ H, Pv n σ H → D.nx σ H) :
    ∃ W : Nat → Nat → St → Hp → Prop, (∃ m, W 0 m σ H) ∧ ∀ i m σ H, W i m σ H →
      ((Itr lo n).stop i H ∧ D.nx σ H) ∨ ((Itr lo n).go i H ∧ ∃ N : St → Hp → Prop, (∀ σ' H', N σ' H' → ∃ m', m' < m ∧ W (i + 1) m' σ' H') ∧ ∀ x H', (Itr lo n).yld i H x H' → g x σ H' fun σ2 H2 => tb { D with nx := N, ct := N, bk := D.nx } σ2 H2) := by
  refine ⟨fun i m σ H => m = n - i ∧ i ≤ n ∧ Pv i σ H, ⟨n, by simp, Nat.zero_le _, h0⟩, ?_⟩
  rintro i m σ H ⟨rfl, hi, p⟩
  by_cases hlt : i < n
  · refine .inr ⟨hlt, Pv (i + 1), fun σ' H' p' => ⟨n - (i + 1), by omega, rfl, hlt, p'⟩, fun x H' y => ?_⟩
    obtain ⟨e, y⟩ := y
    subst e y
    exact hs i σ _ hlt p
  · have e : i = n := by omega
    subst e
    exact .inl ⟨Nat.le_refl _, hd σ H p⟩
end L2

namespace L2
open PySem PySem.Spec PyProof.Rows

abbrev R2 := V → V → Hp → VK → Prop
/-- a two-place operation on values: f is binaryOp op, inplaceOp op or compareOp op -/
def OpR (X : Cx) (f : Value → Value → Sem Value) (r : R2) : Prop :=
  ∀ (pins : List (Addr × Obj)) (s : Shared) (σ : St) (H : Hp) (x y : V) (v u : Value) (Q : VK), Inv X pins σ H s → RelV x v → RelV y u → r x y H Q →
    wpAny (model X.prog X.w) X.A (f v u) (EP X pins σ Q) X.xe s
/-- a call of a value that is known (a builtin, a type) with values -/
def CallR (X : Cx) (f : Value) (r : List V → Hp → VK → Prop) : Prop :=
  ∀ (pins : List (Addr × Obj)) (s : Shared) (σ : St) (H : Hp) (xs : List V) (us : List Value) (Q : VK), Inv X pins σ H s → Vals xs us → r xs H Q →
    wpAny (model X.prog X.w) X.A (call f us) (EP X pins σ Q) X.xe s
def tOp (r : R2) (ta tb : TE) : TE := fun σ H Q => ta σ H fun x H1 => tb σ H1 fun y H2 => r x y H2 Q
/-- ints in, under C, and a value out -/
def rI (C : Int → Int → Prop) (g : Int → Int → V) : R2 := fun x y H Q => ∃ i j, x = .int i ∧ y = .int j ∧ C i j ∧ Q (g i j) H
def rI0 (g : Int → Int → V) : R2 := fun x y H Q => ∃ i j, x = .int i ∧ y = .int j ∧ Q (g i j) H
section
variable {X : Cx} {a b c : Expr} {ta tb tc : TE} {pos : Pos}

theorem binT (ha : PE X a ta) (hb : PE X b tb) {pins : List (Addr × Obj)} {s : Shared} {σ : St} {H : Hp} {R : V → V → Hp → Prop} (I : Inv X pins σ H s)
    (h : ta σ H fun x H1 => tb σ H1 fun y H2 => R x y H2) {Q : Value → Shared → Prop} {f : Value → Value → Sem Value}
    (hf : ∀ v u s2 x y H2, Inv X pins σ H2 s2 → RelV x v → RelV y u → R x y H2 → wpAny (model X.prog X.w) X.A (f v u) Q X.xe s2) :
    wpAny (model X.prog X.w) X.A (eval a X.env) (fun v s₁ => wpAny (model X.prog X.w) X.A (eval b X.env) (fun u s₂ => wpAny (model X.prog X.w) X.A (f v u) Q X.xe s₂) X.xe s₁) X.xe s := by
  refine thn (ha pins s σ H _ I h) fun v s1 ⟨x, H1, I1, r1, q1⟩ => ?_
  refine thn (hb pins s1 σ H1 _ I1 q1) fun u s2 ⟨y, H2, I2, r2, q2⟩ => ?_
  exact hf v u s2 x y H2 I2 r1 r2 q2

theorem pe_op {op : Operator} {r : R2} (ho : OpR X (binaryOp op) r) (ha : PE X a ta) (hb : PE X b tb) : PE X (.BinOp a op b pos) (tOp r ta tb) := by
  intro pins s σ H Q I h
  exact wpAny_BinOp (binT ha hb I h fun v u s2 x y H2 I2 rx ry q => ho pins s2 σ H2 x y v u Q I2 rx ry q)
/-! ### ints -/
theorem opI {f : Value → Value → Sem Value} {C : Int → Int → Prop} {g : Int → Int → Int}
    (rule : ∀ (i j : Int) (t u : Tok) (s : Shared) (Q : Value → Shared → Prop) (E : Value → Shared → Prop), C i j → Q (.int (g i j) s.toks) { s with toks := s.toks + 1 } → wpAny (model X.prog X.w) X.A (f (.int i t) (.int j u)) Q E s) :
    OpR X f (rI C fun i j => .int (g i j)) := by
  intro pins s σ H x y v u Q I rx ry h
  obtain ⟨i, j, rfl, rfl, hc, q⟩ := h
  obtain ⟨t, rfl⟩ := rx
  obtain ⟨t', rfl⟩ := ry
  exact rule i j t t' s _ _ hc ⟨.int (g i j), H, I.tok _, ⟨_, rfl⟩, q⟩
theorem opI0 {f : Value → Value → Sem Value} {g : Int → Int → Int}
    (rule : ∀ (i j : Int) (t u : Tok) (s : Shared) (Q : Value → Shared → Prop) (E : Value → Shared → Prop), Q (.int (g i j) s.toks) { s with toks := s.toks + 1 } → wpAny (model X.prog X.w) X.A (f (.int i t) (.int j u)) Q E s) :
    OpR X f (rI0 fun i j => .int (g i j)) := by
  intro pins s σ H x y v u Q I rx ry h
  obtain ⟨i, j, rfl, rfl, q⟩ := h
  obtain ⟨t, rfl⟩ := rx
  obtain ⟨t', rfl⟩ := ry
  exact rule i j t t' s _ _ ⟨.int (g i j), H, I.tok _, ⟨_, rfl⟩, q⟩
theorem opB0 {f : Value → Value → Sem Value} {g : Int → Int → Bool}
    (rule : ∀ (i j : Int) (t u : Tok) (s : Shared) (Q : Value → Shared → Prop) (E : Value → Shared → Prop), Q (.bool (g i j)) s → wpAny (model X.prog X.w) X.A (f (.int i t) (.int j u)) Q E s) :
    OpR X f (rI0 fun i j => .bl (g i j)) := by
  intro pins s σ H x y v u Q I rx ry h
  obtain ⟨i, j, rfl, rfl, q⟩ := h
  obtain ⟨t, rfl⟩ := rx
  obtain ⟨t', rfl⟩ := ry
  exact rule i j t t' s _ _ ⟨.bl (g i j), H, I, rfl, q⟩

def CDiv (i j : Int) : Prop := 0 < j ∧ j < 1073741824
def CMul (i j : Int) : Prop := (-(2 ^ 64) < i ∧ i < 2 ^ 64) ∨ (-(2 ^ 64) < j ∧ j < 2 ^ 64)
theorem CMul.ok {i j : Int} (h : CMul i j) : IntMulOk i j := by
  rcases h with ⟨h1, h2⟩ | ⟨h1, h2⟩
  · exact .of_left (intBits_le_64 h1 h2)
  · exact .of_right (intBits_le_64 h1 h2)
theorem op_add : OpR X (binaryOp .Add) (rI0 fun i j => .int (i + j)) := opI0 fun _ _ _ _ _ _ _ q => add_int q
theorem op_sub : OpR X (binaryOp .Sub) (rI0 fun i j => .int (i - j)) := opI0 fun _ _ _ _ _ _ _ q => sub_int q
theorem op_mul : OpR X (binaryOp .Mult) (rI CMul fun i j => .int (i * j)) := opI fun _ _ _ _ _ _ _ hc q => mul_int q hc.ok
/-- // by a positive divisor -/
theorem op_fdiv : OpR X (binaryOp .FloorDiv) (rI CDiv fun i j => .int (i / j)) := opI fun i j _ _ _ _ _ hc q => by
  have h1 : (0 : Int) < j := hc.1
  have h2 : j < 1073741824 := hc.2
  exact floordiv_int (by omega) (by rw [Int.fdiv_eq_ediv_of_nonneg i (by omega)]; exact q) (.inl (PyProof.noPylong_small (by omega)))
/-- % by a positive divisor of any size -/
theorem op_mod : OpR X (binaryOp .Mod) (rI (fun _ j => 0 < j) fun i j => .int (i % j)) := opI fun i j _ _ _ _ _ hc q => by
  have h1 : (0 : Int) < j := hc
  exact mod_int' (by omega) (by rw [Int.fmod_eq_emod_of_nonneg i (by omega)]; exact q)
/-! ### bools among ints: n += (a < b) -/
end

/-! ### comparisons -/
/-- the scalars that == tells apart as data does -/
def scal : V → V → Bool
  | .non, .non => true | .non, .int _ => true | .int _, .non => true | .non, .bl _ => true | .bl _, .non => true | .non, .str _ => true | .str _, .non => true
  | .int _, .int _ => true | .bl _, .bl _ => true | .str _, .str _ => true | .byt _, .byt _ => true
  | .int _, .str _ => true | .str _, .int _ => true | .bl _, .str _ => true | .str _, .bl _ => true
  | _, _ => false
def rEq : R2 := fun x y H Q => scal x y = true ∧ Q (.bl (decide (x = y))) H
def rNe : R2 := fun x y H Q => scal x y = true ∧ Q (.bl (!decide (x = y))) H

theorem dec_int {i j : Int} : decide (V.int i = V.int j) = (i == j) := by
  rw [Bool.eq_iff_iff]
  simp
theorem dec_bl {i j : Bool} : decide (V.bl i = V.bl j) = (i == j) := by
  rw [Bool.eq_iff_iff]
  simp
theorem dec_str {i j : Str} : decide (V.str i = V.str j) = (i == j) := by
  rw [Bool.eq_iff_iff]
  simp
theorem dec_byt {i j : Array UInt8} : decide (V.byt i = V.byt j) = (i.toList == j.toList) := by
  rw [Bool.eq_iff_iff]
  cases i
  cases j
  simp

section
variable {X : Cx} {a b c : Expr} {ta tb tc : TE} {pos : Pos}
theorem fin_bl {pins : List (Addr × Obj)} {σ : St} {H : Hp} {s : Shared} {Q : VK} {k k' : Bool} (I : Inv X pins σ H s) (q : Q (.bl k) H) (e : k = k') : EP X pins σ Q (.bool k') s := by
  subst e
  exact ⟨.bl k, H, I, rfl, q⟩
theorem op_eq : OpR X (compareOp .Eq) rEq := by
  intro pins s σ H x y v u Q I rx ry h
  obtain ⟨hs, q⟩ := h
  cases x with
  | non =>
    cases rx
    cases y with
    | non => cases ry; exact PySem.EqNone.eq_none_none (fin_bl I q (by simp))
    | bl j => cases ry; exact PySem.EqNone.eq_none_bool (fin_bl I q (by simp))
    | int j => obtain ⟨t', rfl⟩ := ry; exact PySem.EqNone.eq_none_int (fin_bl I q (by simp))
    | str j => obtain ⟨t', rfl⟩ := ry; exact PySem.EqNone.eq_none_str (fin_bl I q (by simp))
    | _ => exact absurd (show false = true from hs) Bool.false_ne_true
  | bl i =>
    cases rx
    cases y with
    | non => cases ry; exact PySem.EqNone.eq_bool_none (fin_bl I q (by simp))
    | bl j => cases ry; exact eq_bool (fin_bl I q dec_bl)
    | str j => obtain ⟨t', rfl⟩ := ry; exact PySem.EqMixed.eq_bool_str (fin_bl I q (by simp))
    | _ => exact absurd (show false = true from hs) Bool.false_ne_true
  | int i =>
    obtain ⟨t, rfl⟩ := rx
    cases y with
    | non => cases ry; exact PySem.EqNone.eq_int_none (fin_bl I q (by simp))
    | int j => obtain ⟨t', rfl⟩ := ry; exact eq_int (fin_bl I q dec_int)
    | str j => obtain ⟨t', rfl⟩ := ry; exact PySem.EqMixed.eq_int_str (fin_bl I q (by simp))
    | _ => exact absurd (show false = true from hs) Bool.false_ne_true
  | str i =>
    obtain ⟨t, rfl⟩ := rx
    cases y with
    | non => cases ry; exact PySem.EqNone.eq_str_none (fin_bl I q (by simp))
    | bl j => cases ry; exact PySem.EqMixed.eq_str_bool (fin_bl I q (by simp))
    | int j => obtain ⟨t', rfl⟩ := ry; exact PySem.EqMixed.eq_str_int (fin_bl I q (by simp))
    | str j => obtain ⟨t', rfl⟩ := ry; exact eq_str (fin_bl I q dec_str)
    | _ => exact absurd (show false = true from hs) Bool.false_ne_true
  | byt i =>
    obtain ⟨t, rfl⟩ := rx
    cases y with
    | byt j => obtain ⟨t', rfl⟩ := ry; exact PySem.W.eq_bytes (fin_bl I q dec_byt)
    | _ => exact absurd (show false = true from hs) Bool.false_ne_true
  | _ => cases y <;> exact absurd (show false = true from hs) Bool.false_ne_true
theorem op_ne : OpR X (compareOp .NotEq) rNe := by
  intro pins s σ H x y v u Q I rx ry h
  obtain ⟨hs, q⟩ := h
  cases x with
  | non =>
    cases rx
    cases y with
    | non => cases ry; exact PySem.EqNone.ne_none_none (fin_bl I q (by simp))
    | bl j => cases ry; exact PySem.EqNone.ne_none_bool (fin_bl I q (by simp))
    | int j => obtain ⟨t', rfl⟩ := ry; exact PySem.EqNone.ne_none_int (fin_bl I q (by simp))
    | str j => obtain ⟨t', rfl⟩ := ry; exact PySem.EqNone.ne_none_str (fin_bl I q (by simp))
    | _ => exact absurd (show false = true from hs) Bool.false_ne_true
  | bl i =>
    cases rx
    cases y with
    | non => cases ry; exact PySem.EqNone.ne_bool_none (fin_bl I q (by simp))
    | bl j => cases ry; exact ne_bool (fin_bl I q (congrArg not dec_bl))
    | str j => obtain ⟨t', rfl⟩ := ry; exact PySem.EqMixed.ne_bool_str (fin_bl I q (by simp))
    | _ => exact absurd (show false = true from hs) Bool.false_ne_true
  | int i =>
    obtain ⟨t, rfl⟩ := rx
    cases y with
    | non => cases ry; exact PySem.EqNone.ne_int_none (fin_bl I q (by simp))
    | int j => obtain ⟨t', rfl⟩ := ry; exact ne_int (fin_bl I q (congrArg not dec_int))
    | str j => obtain ⟨t', rfl⟩ := ry; exact PySem.EqMixed.ne_int_str (fin_bl I q (by simp))
    | _ => exact absurd (show false = true from hs) Bool.false_ne_true
  | str i =>
    obtain ⟨t, rfl⟩ := rx
    cases y with
    | non => cases ry; exact PySem.EqNone.ne_str_none (fin_bl I q (by simp))
    | bl j => cases ry; exact PySem.EqMixed.ne_str_bool (fin_bl I q (by simp))
    | int j => obtain ⟨t', rfl⟩ := ry; exact PySem.EqMixed.ne_str_int (fin_bl I q (by simp))
    | str j => obtain ⟨t', rfl⟩ := ry; exact ne_str (fin_bl I q (congrArg not dec_str))
    | _ => exact absurd (show false = true from hs) Bool.false_ne_true
  | byt i =>
    obtain ⟨t, rfl⟩ := rx
    cases y with
    | byt j => obtain ⟨t', rfl⟩ := ry; exact PySem.W.ne_bytes (fin_bl I q (congrArg not dec_byt))
    | _ => exact absurd (show false = true from hs) Bool.false_ne_true
  | _ => cases y <;> exact absurd (show false = true from hs) Bool.false_ne_true

theorem op_lt : OpR X (compareOp .Lt) (rI0 fun i j => .bl (decide (i < j))) := opB0 fun _ _ _ _ _ _ _ q => lt_int q
theorem op_le : OpR X (compareOp .LtE) (rI0 fun i j => .bl (decide (i ≤ j))) := opB0 fun _ _ _ _ _ _ _ q => le_int q
theorem op_gt : OpR X (compareOp .Gt) (rI0 fun i j => .bl (decide (j < i))) := opB0 fun _ _ _ _ _ _ _ q => gt_int q
/-- is None, is not None: the right side a value none -/
theorem op_isN : OpR X (compareOp .Is) (fun x y H Q => y = .non ∧ Q (.bl (decide (x = .non))) H) := by
  intro pins s σ H x y v u Q I rx ry h
  obtain ⟨rfl, q⟩ := h
  cases ry
  refine is_none_gen (fin_bl I q ?_)
  cases x <;> first
    | (cases rx; rfl)
    | (obtain ⟨t, rfl⟩ := rx; rfl)
theorem op_notN : OpR X (compareOp .IsNot) (fun x y H Q => y = .non ∧ Q (.bl (!decide (x = .non))) H) := by
  intro pins s σ H x y v u Q I rx ry h
  obtain ⟨rfl, q⟩ := h
  cases ry
  refine isnot_none_gen (fin_bl I q ?_)
  cases x <;> first
    | (cases rx; rfl)
    | (obtain ⟨t, rfl⟩ := rx; rfl)

theorem nomark (b : Expr) {op : CmpOp} (h : op ≠ .In := by decide) (h2 : op ≠ .NotIn := by decide) : behindInMarks op b = false := by
  have e1 : (op == CmpOp.In) = false := by cases op <;> first | rfl | exact absurd rfl h
  have e2 : (op == CmpOp.NotIn) = false := by cases op <;> first | rfl | exact absurd rfl h2
  cases b <;> simp [behindInMarks, e1, e2]
/-- a comparison as a value; hm: nomark b, or (for in, not in) by with_unfolding_all rfl -/
theorem pe_cmpR {op : CmpOp} {r : R2} (ho : OpR X (compareOp op) r) (ha : PE X a ta) (hb : PE X b tb) (hm : behindInMarks op b = false) : PE X (.Compare a [op] [b] pos) (tOp r ta tb) := by
  intro pins s σ H Q I h
  exact wpAny_Compare1 (binT ha hb I h fun v u s2 x y H2 I2 rx ry q => ho pins s2 σ H2 x y v u Q I2 rx ry q) hm
/-- a reading of a value as a test -/
def tTest (t : TE) : TT := fun σ H Q => t σ H fun x H' => ∃ k, x = .bl k ∧ Q k H'
theorem pt_cmpR {op : CmpOp} {r : R2} (ho : OpR X (compareOp op) r) (ha : PE X a ta) (hb : PE X b tb) (hm : behindInMarks op b = false) : PT X (.Compare a [op] [b] pos) (tTest (tOp r ta tb)) := by
  intro pins s σ H Q I h
  refine wpAny_isTrue_Compare1 (thn (ha pins s σ H _ I h) fun v s1 ⟨x, H1, I1, r1, q1⟩ => thn (hb pins s1 σ H1 _ I1 q1) fun u s2 ⟨y, H2, I2, r2, q2⟩ =>
    thn (ho pins s2 σ H2 x y v u _ I2 r1 r2 q2) fun c s3 ⟨z, H3, I3, r3, k, e, q3⟩ => ?_) hm
  subst e
  cases r3
  exact wpAny_truthy_bool ⟨H3, I3, q3⟩
/-- a op1 b op2 c -/
def tChain (r r' : R2) (ta tb tc : TE) : TE := fun σ H Q => ta σ H fun x H1 => tb σ H1 fun y H2 => r x y H2 fun z H3 => ∃ k, z = .bl k ∧
  (if k = true then tc σ H3 fun w' H4 => r' y w' H4 Q else Q (.bl false) H3)
theorem pt_chain {op op' : CmpOp} {r r' : R2} (ho : OpR X (compareOp op) r) (ho' : OpR X (compareOp op') r') (ha : PE X a ta) (hb : PE X b tb) (hc : PE X c tc)
    (hm : lastMarks [op, op'] [b, c] = false := by with_unfolding_all rfl) : PT X (.Compare a [op, op'] [b, c] pos) (tTest (tChain r r' ta tb tc)) := by
  intro pins s σ H Q I h
  refine isTrue_chain (thn (ha pins s σ H _ I h) fun v s1 ⟨x, H1, I1, r1, q1⟩ => test_link (thn (hb pins s1 σ H1 _ I1 q1) fun u s2 ⟨y, H2, I2, r2, q2⟩ =>
    thn (ho pins s2 σ H2 x y v u _ I2 r1 r2 q2) fun d s3 ⟨z, H3, I3, r3, k, e, q3⟩ => ?_)) hm
  subst e
  cases r3
  refine wpAny_truthy_bool ?_
  cases k with
  | false =>
    obtain ⟨k', e', q'⟩ := q3
    cases e'
    exact ite_ff ⟨H3, I3, q'⟩
  | true =>
    refine ite_tt (test_last (thn (hc pins s3 σ H3 _ I3 q3) fun w' s4 ⟨z', H4, I4, r4, q4⟩ => thn (ho' pins s4 σ H4 y z' u w' _ I4 r2 r4 q4) fun d' s5 ⟨z2, H5, I5, r5, k2, e2, q5⟩ => ?_))
    subst e2
    cases r5
    exact wpAny_truthy_bool ⟨H5, I5, q5⟩

/-! ### truth -/
theorem line63 : (sizeLine : Nat) < 2 ^ 63 := by rw [sizeLine_eq]; decide
/-! ### strs and bytes -/
/-! ### scalar builtins, by CallR -/
theorem vals1 {x : V} {us : List Value} (r : Vals [x] us) : ∃ u, us = [u] ∧ RelV x u := by
  cases r with
  | cons r1 r2 => cases r2; exact ⟨_, rfl, r1⟩
theorem vals2 {x y : V} {us : List Value} (r : Vals [x, y] us) : ∃ u w', us = [u, w'] ∧ RelV x u ∧ RelV y w' := by
  cases r with
  | cons r1 r2 =>
    cases r2 with
    | cons r3 r4 => cases r4; exact ⟨_, _, rfl, r1, r3⟩
end
end L2

namespace L2
open PySem PySem.Spec PyProof.Rows

/-! ### an instance, its attributes a map -/
structure ObjM (h : Heap) (x dx C : Addr) (mA : Str → Option Value) : Prop where
  obj : h.get? x = some (PySem.W.instObj C dx)
  ns : h.Ns1 dx mA
  ne : dx ≠ x

theorem lookIn_ns {h : Heap} {dx : Addr} {mA : Str → Option Value} (n : h.Ns1 dx mA) : ∃ od, h.get? dx = some od ∧ ∀ name, PySem.W.lookIn name od = some (mA name) := by
  obtain ⟨o, es, ep, ho, hd, hk, _, hm⟩ := n
  refine ⟨o, ho, fun name => ?_⟩
  have e := hm name
  unfold nsFind findBy at e
  rw [← Array.find?_toList] at e
  unfold PySem.W.lookIn
  rw [hd]
  dsimp only
  split
  · rename_i y q
    rw [q] at e
    exact congrArg some e
  · rename_i q
    rw [q] at e
    have a : es.toList.any (·.refKey) = false := by
      rw [List.any_eq_false]
      intro y hy
      obtain ⟨z, t, hkey⟩ := hk y (Array.mem_toList_iff.mp hy)
      simp [DictEntry.refKey, hkey]
    have a' : ¬ es.toList.any (·.refKey) = true := by rw [a]; exact Bool.false_ne_true
    rw [if_neg a']
    exact congrArg some e

theorem ObjM.look {h : Heap} {x dx C : Addr} {mA : Str → Option Value} (I : ObjM h x dx C mA) : ∃ od, PySem.W.InstAt h x (PySem.W.instObj C dx) C (some od) ∧ ∀ name, PySem.W.lookIn name od = some (mA name) :=
  let ⟨od, ho, hl⟩ := lookIn_ns I.ns
  ⟨od, ⟨I.obj, rfl, rfl, ho⟩, hl⟩

section
variable {prog : Program} {w : World} {A : Around} {E : Value → Shared → Prop} {s : Shared} {K : PySem.W.Frag} {x dx C f : Addr} {mA : Str → Option Value} {name : Str} {v : Value}

theorem get_map {expr : Bool} {Q : Value → Shared → Prop} (X : K.In s.heap) (I : ObjM s.heap x dx C mA) (hg : PySem.W.plainGet K C name = true) (hh : PySem.W.hasDictIn K C = true)
    (ha : PySem.W.findIn K (.ref C) name = some none) (hv : mA name = some v) (hv' : PySem.W.handedIn v = true) (h : Q v { s with toks := s.toks + 1 }) :
    wpAny (model prog w) A (getAttr (.ref x) name expr) Q E s := by
  obtain ⟨od, J, hl⟩ := I.look
  exact PySem.W.get_value X J (PySem.W.plainGet_of hg).1 (PySem.W.findObj_own hh ha rfl (by rw [hl, hv])) hv' h

theorem set_map {ns : List Str} {Q : Unit → Shared → Prop} (X : K.In s.heap) (I : ObjM s.heap x dx C mA)
    (hs : PySem.W.findIn K (.ref C) "__setattr__" = some (some (.builtin "object.__setattr__"))) (hp : PySem.W.plainOver K C = true) (ht : PySem.W.takerIn K C name = some none) (hh : PySem.W.hasDictIn K C = true)
    (hw : PySem.Within mA ns) (hsz : ns.length ≤ sizeLine)
    (h : ∀ h', ObjM h' x dx C (fun y => if y = name then some v else mA y) → Heap.SameBut dx s.heap h' → Q () { s with heap := h', toks := s.toks + 2 }) :
    wpAny (model prog w) A (setAttr (.ref x) name v) Q E s := by
  obtain ⟨od, J, hl⟩ := I.look
  refine PySem.W.set_plain X J hs (PySem.W.osa_open (s := { s with toks := s.toks + 1 }) (r := none) X J hp ht fun b => ?_)
  obtain ⟨cd, hc, hd'⟩ := PySem.W.any_some hh
  have hx : s.heap.get? x = some ⟨.ref C, some dx, .plain, #[]⟩ := I.obj
  refine wpAny_bind (wpAny_pure (wpAny_bind (wpAny_bind (wpAny_loadPart hx (wpAny_bind (PySem.W.Looks.here (s := { s with toks := s.toks + 1 }) (PySem.W.looks_clsIn X hc) ?_))))))
  rw [hd']
  refine wpAny_pure (a := some dx) (wpAny_bind (wpAny_pure (wpAny_bind ?_)))
  refine wpAny_nsSet1 (s := { s with toks := s.toks + 1 }) I.ns fun h' hn2 hs2 => ?_
  obtain ⟨oD, esD, epD, hoD, hdD, hcD⟩ := hn2.count (PySem.Within.cons name v hw)
  refine wpAny_bind (wpAny_lookBehind hoD (by rw [hdD]; exact pastItsLine_dict (Nat.le_trans hcD (by rw [List.length_cons]; omega))) ?_)
  exact wpAny_pure (h _ ⟨(hs2.2 _ (Ne.symm I.ne)).trans I.obj, hn2, I.ne⟩ hs2)

/-- C(..): the dict at the heap's end, the instance behind it; then its __init__ -/
theorem make_map {R : Result → Shared → Prop} {vs : List Value} {kw : List (Str × Value)} (X : K.In s.heap) (hm : PySem.W.makesIn K C = true)
    (hi : PySem.W.findIn K (.ref C) "__init__" = some (some (.ref f))) (hf : PySem.W.typeIn K (.ref f) = some (.type "function"))
    (h : codeAny (model prog w) (A.under (.builtin "type.__call__" ⟨.ref C :: vs, kw⟩)) (.call (.ref f) ⟨.ref (s.heap.objs.size + 1) :: vs, kw⟩) (PySem.W.InitBack (s.heap.objs.size + 1) R)
      { s with heap := (s.heap.push PySem.W.emptyDict).push (PySem.W.instObj C s.heap.objs.size) }) :
    codeAny (model prog w) A (.call (.ref C) ⟨vs, kw⟩) R s := by
  obtain ⟨hh, g, d, t, os⟩ := s
  exact PySem.W.make_core (PySem.W.makes_of X hm) (PySem.W.looks_findIn X hi) (fun self => PySem.W.bind_fn X self hf) (.inl rfl) h
end

/-! ### the attributes as a list of pairs -/
def putF (f : Str) (v : V) : List (Str × V) → List (Str × V)
  | [] => [(f, v)]
  | (g, x) :: r => if g = f then (g, v) :: r else (g, x) :: putF f v r
theorem lookup_putF (f g : Str) (v : V) : ∀ fs : List (Str × V), (putF f v fs).lookup g = if g = f then some v else fs.lookup g
  | [] => by
    show List.lookup g [(f, v)] = _
    by_cases h : g = f
    · have hb : (g == f) = true := beq_iff_eq.mpr h
      simp only [List.lookup, hb, if_pos h]
    · have hb : (g == f) = false := beq_eq_false_iff_ne.mpr h
      simp only [List.lookup, hb, if_neg h]
  | (k, x) :: r => by
    have ih := lookup_putF f g v r
    rw [show putF f v ((k, x) :: r) = (if k = f then (k, v) :: r else (k, x) :: putF f v r) from rfl]
    by_cases hk : k = f
    · rw [if_pos hk]
      by_cases h : g = k
      · have hb : (g == k) = true := beq_iff_eq.mpr h
        simp only [List.lookup, hb, if_pos (h.trans hk)]
      · have hb : (g == k) = false := beq_eq_false_iff_ne.mpr h
        simp only [List.lookup, hb, if_neg (fun e : g = f => h (e.trans hk.symm))]
    · rw [if_neg hk]
      by_cases h : g = k
      · have hb : (g == k) = true := beq_iff_eq.mpr h
        simp only [List.lookup, hb, if_neg (fun e : g = f => hk (h.symm.trans e))]
      · have hb : (g == k) = false := beq_eq_false_iff_ne.mpr h
        simp only [List.lookup, hb]
        exact ih
theorem keys_putF (f : Str) (v : V) : ∀ fs : List (Str × V), f ∈ (putF f v fs).map (·.1) ∧ ∀ g, g ∈ fs.map (·.1) → g ∈ (putF f v fs).map (·.1)
  | [] => ⟨by simp [putF], fun g h => by simp at h⟩
  | (k, x) :: r => by
    obtain ⟨i1, i2⟩ := keys_putF f v r
    rw [show putF f v ((k, x) :: r) = (if k = f then (k, v) :: r else (k, x) :: putF f v r) from rfl]
    by_cases hk : k = f
    · rw [if_pos hk]
      subst hk
      exact ⟨by simp, fun g h => by simpa using h⟩
    · rw [if_neg hk]
      refine ⟨?_, fun g h => ?_⟩
      · rw [List.map_cons]
        exact List.mem_cons_of_mem _ i1
      · rw [List.map_cons] at h ⊢
        rcases List.mem_cons.mp h with e | e
        · exact List.mem_cons.mpr (.inl e)
        · exact List.mem_cons_of_mem _ (i2 g e)
theorem length_putF (f : Str) (v : V) : ∀ fs : List (Str × V), (putF f v fs).length ≤ fs.length + 1
  | [] => by simp [putF]
  | (k, x) :: r => by
    have ih := length_putF f v r
    rw [show putF f v ((k, x) :: r) = (if k = f then (k, v) :: r else (k, x) :: putF f v r) from rfl]
    by_cases hk : k = f
    · rw [if_pos hk, List.length_cons, List.length_cons]; omega
    · rw [if_neg hk, List.length_cons, List.length_cons]; omega

theorem RelO.some_of {v : V} {o : Option Value} (r : RelO (some v) o) : ∃ u, o = some u ∧ RelV v u := by
  cases o with
  | none => exact (show False from r).elim
  | some u => exact ⟨u, rfl, r⟩
theorem handed_of {v : V} {u : Value} (r : RelV v u) : PySem.W.handedIn u = true := by
  cases v with
  | non => cases (show u = Value.none from r); rfl
  | bl b => cases (show u = Value.bool b from r); rfl
  | int i => obtain ⟨t, e⟩ := (show ∃ t, u = Value.int i t from r); cases e; rfl
  | str x => obtain ⟨t, e⟩ := (show ∃ t, u = Value.str x t from r); cases e; rfl
  | byt b => obtain ⟨t, e⟩ := (show ∃ t, u = Value.bytes b t from r); cases e; rfl
  | flt b => obtain ⟨t, e⟩ := (show ∃ t, u = Value.float b t from r); cases e; rfl
  | ref a => cases (show u = Value.ref a from r); rfl
  | ty n => cases (show u = Value.type n from r); rfl

section
variable {P : Program} {w : World} {H H' : Hp} {h h' : Heap} {a C dx : Addr} {fs fs' : List (Str × V)}
theorem ins_get (hok : HOk P w H h) (e : H a = some (.ins C dx fs)) : ∃ mA, ObjM h a dx C mA ∧ (∀ f, RelO (fs.lookup f) (mA f)) ∧ PySem.Within mA (fs.map (·.1)) ∧ fs.length ≤ 1000 ∧ H dx = some (.own a) := by
  obtain ⟨d, z, ne, ob, mA, n, r, q⟩ := (show ObjOk P w H h a (.ins C dx fs) from hok a _ e)
  exact ⟨mA, ⟨ob, n, ne⟩, r, q, z, d⟩
end

/-! ### what of the text a class must have -/
structure Cls (K : PySem.W.Frag) (C : Addr) : Prop where
  pg : PySem.W.plainGet K C Str.empty = true
  hd : PySem.W.hasDictIn K C = true
  po : PySem.W.plainOver K C = true
  sa : PySem.W.findIn K (.ref C) "__setattr__" = some (some (.builtin "object.__setattr__"))
theorem Cls.get {K : PySem.W.Frag} {C : Addr} (c : Cls K C) (f : Str) : PySem.W.plainGet K C f = true := c.pg
/-- no class of it has the name -/
def NoAttr (K : PySem.W.Frag) (C : Addr) (f : Str) : Prop := PySem.W.findIn K (.ref C) f = some none
theorem NoAttr.taker {K : PySem.W.Frag} {C : Addr} {f : Str} (n : NoAttr K C f) : PySem.W.takerIn K C f = some none := by
  unfold PySem.W.takerIn
  rw [show PySem.W.findIn K (.ref C) f = some none from n]
  rfl
/-- a method: a plain def of the class or of one above it -/
structure Meth (K : PySem.W.Frag) (C : Addr) (m : Str) (f : Addr) : Prop where
  at_ : PySem.W.findIn K (.ref C) m = some (some (.ref f))
  fn : PySem.W.isFn K (.ref f) = true
  kp : PySem.W.keepIn K (.ref f) = true

section
variable {X : Cx} {pins : List (Addr × Obj)} {σ : St} {H : Hp} {s : Shared} {a C dx : Addr} {fs : List (Str × V)} {f : Str} {v : V} {A : Around} {E : Value → Shared → Prop}

theorem getattr_ok {b : Bool} {Q : Value → Shared → Prop} (I : Inv X pins σ H s) (e : H a = some (.ins C dx fs)) (c : Cls X.K C) (n : NoAttr X.K C f) (l : fs.lookup f = some v)
    (h : ∀ u s', Inv X pins σ H s' → RelV v u → Q u s') : wpAny (model X.prog X.w) A (getAttr (.ref a) f b) Q E s := by
  obtain ⟨mA, O, r, _, _, _⟩ := ins_get I.hok e
  obtain ⟨u, hu, ru⟩ := RelO.some_of (v := v) (o := mA f) (by rw [← l]; exact r f)
  exact get_map I.kIn O (c.get f) c.hd n hu (handed_of ru) (h u _ (I.tok _) ru)

theorem setattr_ok {y : V} {u : Value} {Q : Unit → Shared → Prop} (I : Inv X pins σ H s) (e : H a = some (.ins C dx fs)) (c : Cls X.K C) (n : NoAttr X.K C f) (hl : fs.length < 1000) (ry : RelV y u)
    (h : ∀ s', Inv X pins σ (upd H a (.ins C dx (putF f y fs))) s' → Q () s') : wpAny (model X.prog X.w) A (setAttr (.ref a) f u) Q E s := by
  obtain ⟨mA, O, r, wi, _, ho⟩ := ins_get I.hok e
  have hz : (fs.map (·.1)).length ≤ sizeLine := by rw [List.length_map, sizeLine_eq]; omega
  refine set_map I.kIn O c.sa c.po n.taker c.hd wi hz fun h' O' sb => h _ ?_
  have hd : ∃ o, h'.get? dx = some o := let ⟨o, _, _, e', _⟩ := O'.ns; ⟨o, e'⟩
  refine I.write (x := a) (e := dx) (by rw [e]; exact True.intro) (.inr ho) (fun b q hb z => (sb.2 b hb).trans z) hd ?_
  refine ⟨by rw [upd_ne O.ne]; exact ho, ?_, O.ne, O'.obj, _, O'.ns, fun g => ?_, fun g hg => ?_⟩
  · have := length_putF f y fs; omega
  · show RelO ((putF f y fs).lookup g) (if g = f then some u else mA g)
    rw [lookup_putF]
    by_cases q : g = f
    · rw [if_pos q, if_pos q]; exact ry
    · rw [if_neg q, if_neg q]; exact r g
  · by_cases q : g = f
    · rw [q]; exact (keys_putF f y fs).1
    · refine (keys_putF f y fs).2 g (wi g fun z => hg ?_)
      show (if g = f then some u else mA g) = none
      rw [if_neg q]; exact z

/-- a new instance, tracked, without attributes -/
theorem Inv.made (I : Inv X pins σ H s) : Inv X pins σ (upd (upd H s.heap.objs.size (.own (s.heap.objs.size + 1))) (s.heap.objs.size + 1) (.ins C s.heap.objs.size []))
    { s with heap := (s.heap.push PySem.W.emptyDict).push (PySem.W.instObj C s.heap.objs.size) } := by
  have e1 : (s.heap.push PySem.W.emptyDict).get? s.heap.objs.size = some PySem.W.emptyDict := Heap.get?_push_size s.heap rfl
  have e2 : ((s.heap.push PySem.W.emptyDict).push (PySem.W.instObj C s.heap.objs.size)).get? (s.heap.objs.size + 1) = some (PySem.W.instObj C s.heap.objs.size) := by
    have := Heap.get?_push_size (s.heap.push PySem.W.emptyDict) (o := PySem.W.instObj C s.heap.objs.size) rfl
    rwa [Heap.size_push] at this
  have e3 : (s.heap.push PySem.W.emptyDict).Ns s.heap.objs.size (fun _ => none) := ⟨PySem.W.emptyDict, #[], _, e1, rfl, (fun e he => absurd he (by simp)), fun _ => rfl⟩
  have I1 := I.laid (a := s.heap.objs.size) (o := .own (s.heap.objs.size + 1)) (h' := s.heap.push PySem.W.emptyDict) (t' := s.toks) (fun b u q => Heap.get?_push_of_some _ q) (Nat.le_refl _) ⟨_, e1⟩
  refine I1.laid (a := s.heap.objs.size + 1) (o := .ins C s.heap.objs.size []) (t' := s.toks) (fun b u q => Heap.get?_push_of_some _ q) (Nat.le_of_eq (Heap.size_push _ _)) ?_
  have ne : s.heap.objs.size ≠ s.heap.objs.size + 1 := Nat.ne_of_lt (Nat.lt_succ_self _)
  refine ⟨by rw [upd_ne ne, upd_same], Nat.zero_le _, ne, e2, fun _ => none, (Heap.Ns1.of_empty e3).at fun o q => Heap.get?_push_of_some _ q, fun _ => True.intro, fun y hy => absurd rfl hy⟩

/-- e.f where nothing but the object is asked: through attributeBase (super) and the last hold -/
theorem attr_of {prog : Program} {w : World} {env : Env} {e : Expr} {f : Str} {pos : Pos} {s : Shared} {Q : Value → Shared → Prop} (hb : attributeBase e f env (eval e env) = eval e env)
    (h : wpAny (model prog w) A (eval e env) (fun o s₁ => wpAny (model prog w) A (getAttr o f true) Q E s₁) E s) : wpAny (model prog w) A (eval (.Attribute e f pos) env) Q E s :=
  Attribute_any_ h (by rw [arm_eval_Attribute, hb])
end

/-! ### readings and rules -/
/-- e.f, an attribute of the instance -/
def tFld (K : PySem.W.Frag) (ta : TE) (f : Str) : TE := fun σ H Q => ta σ H fun x H1 => ∃ a C dx fs v, x = .ref a ∧ H1 a = some (.ins C dx fs) ∧ Cls K C ∧ NoAttr K C f ∧ fs.lookup f = some v ∧ Q v H1
/-- e.f = value -/
def sFld (K : PySem.W.Frag) (ta tv : TE) (f : Str) : TS := fun D σ H => tv σ H fun y H1 => ta σ H1 fun x H2 => ∃ a C dx fs, x = .ref a ∧ H2 a = some (.ins C dx fs) ∧ Cls K C ∧ NoAttr K C f ∧ fs.length < 1000 ∧
  D.nx σ (upd H2 a (.ins C dx (putF f y fs)))
section
variable {X : Cx} {o e value : Expr} {f : Str} {pos pos' tpos : Pos} {ta tv : TE}
theorem pe_fld (he : PE X e ta) (hb : attributeBase e f X.env (eval e X.env) = eval e X.env) : PE X (.Attribute e f pos) (tFld X.K ta f) := by
  intro pins s σ H Q I h
  refine attr_of hb (thn (he pins s σ H _ I h) fun u s1 ⟨x, H1, I1, rx, a, C, dx, fs, v, ex, ea, c, n, l, q⟩ => ?_)
  subst ex
  obtain rfl : u = Value.ref a := rx
  exact getattr_ok I1 ea c n l fun u' s2 I2 ru => ⟨v, H1, I2, ru, q⟩
theorem ps_fld (ha : PE X o ta) (hv : PE X value tv) (hs : swapsWith value (some (.Attribute o f pos')) pos.line X.env = pure false) : PS X (.Assign [.Attribute o f pos'] value pos) (sFld X.K ta tv f) := by
  intro pins s σ H D I h
  refine plainObj_wpAny_Assign_Attribute (thn (hv pins s σ H _ I h) fun u s1 ⟨y, H1, I1, ry, q⟩ => thn (ha pins s1 σ H1 _ I1 q) fun ov s2 ⟨x, H2, I2, rx, a, C, dx, fs, ex, ea, c, n, l, q2⟩ => ?_) hs
  subst ex
  obtain rfl : ov = Value.ref a := rx
  exact setattr_ok I2 ea c n l ry fun s3 I3 => ⟨σ, _, I3, q2⟩
end

/-! ### isinstance -/
section
variable {X : Cx} {pins : List (Addr × Obj)} {σ : St} {H : Hp} {s : Shared} {A : Around} {E : Value → Shared → Prop} {Q : Value → Shared → Prop} {c : Value} {b : Bool}
/-- the type of a value, as the fragment's deciders take it; for an instance its class -/
inductive TyOf (K : PySem.W.Frag) (H : Hp) : V → Value → Prop where
  | non : TyOf K H .non (.type "NoneType")
  | bl (x : Bool) : TyOf K H (.bl x) (.type "bool")
  | int (i : Int) : TyOf K H (.int i) (.type "int")
  | str (x : Str) : TyOf K H (.str x) (.type "str")
  | flt (x : UInt64) : TyOf K H (.flt x) (.type "float")
  | lst {a : Addr} {xs : List V} (e : H a = some (.lst xs)) : TyOf K H (.ref a) (.type "list")
  | frz {a : Addr} {o : Obj} {xs : List V} (e : H a = some (.frz o (.lst xs))) : TyOf K H (.ref a) (.type "list")
  | tup {a : Addr} {xs : List V} (e : H a = some (.tup xs)) : TyOf K H (.ref a) (.type "tuple")
  | dK {a : Addr} {kvs : List (Key × V)} (e : H a = some (.dK kvs)) : TyOf K H (.ref a) (.type "dict")
  | dT {a : Addr} {kvs : List (List Key × V)} (e : H a = some (.dT kvs)) : TyOf K H (.ref a) (.type "dict")
  | ins {a C dx : Addr} {fs : List (Str × V)} (e : H a = some (.ins C dx fs)) (cl : Cls K C) (ha : PySem.W.findIn K (.ref C) "__class__" = some (some (.builtin "object.__class__")))
      (hn : PySem.W.specialIn K (.builtin "object.__class__") "__get__" = some (some (.builtin "getset_descriptor.__get__"))) (htk : PySem.W.takesIn K (.builtin "object.__class__") = some true)
      (hm : PySem.W.mroIn K C (.type "object") = some true) : TyOf K H (.ref a) (.ref C)
/-- isinstance(x, c) for one class c, a built-in or an own one: kitOne's answer -/
theorem isinst_ok {x : V} {u t : Value} (I : Inv X pins σ H s) (rx : RelV x u) (ty : TyOf X.K H x t) (e : PySem.W.kitOne X.K t c = some b) (h : ∀ tk, Q (.bool b) { s with toks := tk }) :
    wpAny (model X.prog X.w) A (call (.builtin "isinstance") [u, c]) Q E s := by
  cases ty with
  | non => cases (show u = Value.none from rx); exact PySem.W.kia_one PySem.W.kitx_none I.kIn True.intro e (fun z => nomatch z) h
  | bl y => cases (show u = Value.bool y from rx); exact PySem.W.kia_one PySem.W.kitx_bool I.kIn True.intro e (fun z => nomatch z) h
  | int i => obtain ⟨t, q⟩ := (show ∃ t, u = Value.int i t from rx); cases q; exact PySem.W.kia_one PySem.W.kitx_int I.kIn True.intro e (fun z => nomatch z) h
  | str y => obtain ⟨t, q⟩ := (show ∃ t, u = Value.str y t from rx); cases q; exact PySem.W.kia_one PySem.W.kitx_str I.kIn True.intro e (fun z => nomatch z) h
  | flt y => obtain ⟨t, q⟩ := (show ∃ t, u = Value.float y t from rx); cases q; exact PySem.W.kia_one PySem.W.kitx_float I.kIn True.intro e (fun z => nomatch z) h
  | @lst a xs ea =>
    cases (show u = Value.ref a from rx)
    obtain ⟨_, _, n, _, h1⟩ := (show ObjOk X.prog X.w H s.heap a (.lst xs) from I.hok a _ ea)
    exact PySem.W.kia_one PySem.W.kitx_list I.kIn ⟨_, h1, rfl⟩ e (fun z => nomatch z) h
  | @frz a ob xs ea =>
    cases (show u = Value.ref a from rx)
    obtain ⟨_, _, _, n, _, h1⟩ := (show ObjOk X.prog X.w H s.heap a (.frz ob (.lst xs)) from I.hok a _ ea)
    exact PySem.W.kia_one PySem.W.kitx_list I.kIn ⟨_, h1, rfl⟩ e (fun z => nomatch z) h
  | @tup a xs ea =>
    cases (show u = Value.ref a from rx)
    obtain ⟨_, _, _, p⟩ := (show ObjOk X.prog X.w H s.heap a (.tup xs) from I.hok a _ ea)
    obtain ⟨o, h1, h2, _⟩ := p
    exact PySem.W.kia_one PySem.W.kitx_tuple I.kIn ⟨o, h1, h2⟩ e (fun z => nomatch z) h
  | @dK a kvs ea =>
    cases (show u = Value.ref a from rx)
    obtain ⟨_, _, vs, _, p⟩ := (show ObjOk X.prog X.w H s.heap a (.dK kvs) from I.hok a _ ea)
    obtain ⟨o, es, ep, h1, h2, _⟩ := p
    exact PySem.W.kia_one PySem.W.kitx_dict I.kIn ⟨o, h1, h2.1⟩ e (fun z => nomatch z) h
  | @dT a kvs ea =>
    cases (show u = Value.ref a from rx)
    obtain ⟨_, _, xs, _, o, es, ep, h1, h2, _⟩ := (show ObjOk X.prog X.w H s.heap a (.dT kvs) from I.hok a _ ea)
    exact PySem.W.kia_one PySem.W.kitx_dict I.kIn ⟨o, h1, h2.1⟩ e (fun z => nomatch z) h
  | @ins a C dx fs ea cl ha hn htk hm =>
    cases (show u = Value.ref a from rx)
    obtain ⟨mA, O, _⟩ := ins_get I.hok ea
    obtain ⟨od, J, _⟩ := O.look
    exact PySem.W.kia_one (PySem.W.kitx_own (cl.get _) cl.hd ha hn htk hm) I.kIn J e (fun z => nomatch z) h
end
end L2

namespace L2
open PySem PySem.Spec PyProof.Rows

/-! ### room -/
structure Room (k : Nat) (A : Around) : Prop where
  hd : A.handled = none
  dp : A.depth + 3 * k + 5 < recursionLimit
  un : A.units + 16 * k + 200 < cLine
theorem Room.mono {j k : Nat} {A : Around} (r : Room k A) (h : j ≤ k) : Room j A := ⟨r.hd, by have := r.dp; omega, by have := r.un; omega⟩
theorem Room.deeper {k : Nat} {A : Around} (r : Room (k + 1) A) (env : Env) : Room k (A.deeper env) :=
  ⟨r.hd, by have := r.dp; show A.depth + 1 + 3 * k + 5 < _; omega, by have := r.un; show A.units + 3 + 16 * k + 200 < _; omega⟩
theorem make_depth {A : Around} {C : Addr} {us : List Value} {kw : List (Str × Value)} : (A.under (.builtin "type.__call__" ⟨.ref C :: us, kw⟩)).depth = A.depth + 1 := by
  first | rfl | simp [Around.under, Code.weight, Code.isCreation, Code.isGuard, Code.isCaller, Code.frames, Code.isFrame, guardIds]
theorem make_units {A : Around} {C : Addr} {us : List Value} {kw : List (Str × Value)} : (A.under (.builtin "type.__call__" ⟨.ref C :: us, kw⟩)).units = A.units + 1 := by
  first | rfl | simp [Around.under, Code.cUnits, Code.frames, Code.isFrame]
theorem Room.make {k : Nat} {A : Around} (r : Room (k + 1) A) (C : Addr) (us : List Value) (kw : List (Str × Value)) : Room k (A.under (.builtin "type.__call__" ⟨.ref C :: us, kw⟩)) :=
  ⟨r.hd, by have := r.dp; rw [make_depth]; omega, by have := r.un; rw [make_units]; omega⟩
theorem Room.depth {k : Nat} {A : Around} (r : Room k A) : A.depth < recursionLimit := by have := r.dp; omega
theorem Room.units {k : Nat} {A : Around} (r : Room k A) : A.units + 64 < cLine := by have := r.un; omega
/-! ### argument lists and displays -/
def tNil : TA := fun _ H Q => Q [] H
def tCons (ta : TE) (tr : TA) : TA := fun σ H Q => ta σ H fun x H1 => tr σ H1 fun xs H2 => Q (x :: xs) H2
section
variable {X : Cx} {e : Expr} {es : List Expr} {te : TE} {t : TA} {pos : Pos}
theorem pa_nil : PA X [] tNil := fun _ _ _ _ H Q I h => Calls.spliced_nil ⟨[], H, I, .nil, h⟩
theorem pa_cons (ha : PE X e te) (hr : PA X es t) (hs : starEach (e :: es) X.env = (false, eval e X.env) :: starEach es X.env := by rfl) : PA X (e :: es) (tCons te t) := by
  intro pos pins s σ H Q I h
  rw [hs]
  show wpAny _ _ (spliced ((false, eval e X.env) :: backTo pos (starEach es X.env))) _ _ s
  refine Calls.spliced_cons (thn (ha pins s σ H _ I h) fun u s1 ⟨x, H1, I1, r1, q1⟩ => ?_)
  exact thn (hr pos pins s1 σ H1 _ I1 q1) fun us s2 ⟨xs, H2, I2, r2, q2⟩ => ⟨x :: xs, H2, I2, .cons r1 r2, q2⟩

/-- a tuple, a list of written items -/
def tTup (t : TA) : TE := fun σ H Q => t σ H fun xs H1 => xs.length ≤ sizeLine ∧ ∀ p, H1 p = none → Q (.ref p) (upd H1 p (.tup xs))
def tLst (t : TA) : TE := fun σ H Q => t σ H fun xs H1 => xs.length ≤ sizeLine ∧ ∀ p, H1 p = none → Q (.ref p) (upd H1 p (.lst xs))
theorem pe_tup {x1} (h : PA X es t) : PE X (.Tuple es x1 pos) (tTup t) := by
  intro pins s σ H Q I hq
  refine wpAny_Tuple_spliced (thn (h pos pins s σ H _ I hq) fun us s1 ⟨xs, H1, I1, r, z, q⟩ => ⟨by rw [← r.length]; exact z, ?_⟩)
  have hf : H1 s1.heap.objs.size = none := I1.hok.fresh (Nat.le_refl _)
  refine ⟨.ref s1.heap.objs.size, upd H1 s1.heap.objs.size (.tup xs), I1.laid (t' := s1.toks) (fun b u e => Heap.get?_push_of_some _ e) (Nat.le_refl _) ?_, rfl, q _ hf⟩
  exact ⟨z, us, r, ⟨_, Heap.get?_push_size _ rfl, rfl, _, rfl⟩⟩
theorem pe_lst (h : PA X es t) : PE X (.List es pos) (tLst t) := by
  intro pins s σ H Q I hq
  refine wpAny_List_spliced (thn (h pos pins s σ H _ I hq) fun us s1 ⟨xs, H1, I1, r, z, q⟩ => ⟨by rw [← r.length]; exact z, ?_⟩)
  have hf : H1 s1.heap.objs.size = none := I1.hok.fresh (Nat.le_refl _)
  refine ⟨.ref s1.heap.objs.size, upd H1 s1.heap.objs.size (.lst xs), I1.laid (t' := s1.toks) (fun b u e => Heap.get?_push_of_some _ e) (Nat.le_refl _) ?_, rfl, q _ hf⟩
  exact ⟨z, us, 0, r, Heap.get?_push_size _ rfl⟩
end

/-! ### what a def promises -/
/-- a def's promise: the bound arguments in the parameters' order, the heap, the wanted end, the wanted exception -/
abbrev Sp := List V → Hp → VK → XK → Prop
/-- how an exception lies behind a call (file 08 gives it): the callers' frames, abstract heap and state ahead of the call, the wish, the exception, the state -/
abbrev CXT := List Env → Hp → Shared → XK → Value → Shared → Prop

/-- the state at a call -/
structure Env0 (P : Program) (w : World) (K : PySem.W.Frag) (mg : Str → Option Value) (base : Heap) (A : Around) (outer : List Env) (s : Shared) (H : Hp) : Prop where
  frames : A.frames = some outer
  mod : Mod K mg base
  bs : ∀ b o, base.get? b = some o → s.heap.get? b = some o ∧ H b = none
  bsz : base.objs.size ≤ s.heap.objs.size
  funs : s.heap.FunFrames base outer
  frf : ∀ b ∈ frs outer, H b = none
  hok : HOk P w H s.heap
  bare : AllBare s.gens
/-- a call's end -/
def CE (outer : List Env) (P : Program) (w : World) (H : Hp) (s : Shared) (Q : VK) (u : Value) (s' : Shared) : Prop :=
  ∃ v H', s'.os = s.os ∧ AllBare s'.gens ∧ Un (frs outer) [] H H' s.heap s'.heap ∧ HOk P w H' s'.heap ∧ RelV v u ∧ Q v H'
def CR (CX : CXT) (outer : List Env) (P : Program) (w : World) (H : Hp) (s : Shared) (Q : VK) (E : XK) (r : Result) (s' : Shared) : Prop :=
  match r with
  | .ok (.ret u) => CE outer P w H s Q u s'
  | .ok _ => False
  | .error e => CX outer H s E e s'
structure FnOk (P : Program) (w : World) (K : PySem.W.Frag) (mg : Str → Option Value) (base : Heap) (CX : CXT) (k : Nat) (f : Addr) (fd : FuncData) (ps : List Str) (sp : Sp) : Prop where
  len : ∀ vs H Q E, sp vs H Q E → vs.length = ps.length
  run : ∀ (A : Around) (outer : List Env) (s : Shared) (H : Hp) (args : Args) (us : List Value) (vs : List V) (Q : VK) (E : XK), Room k A → Env0 P w K mg base A outer s H → BindsTo s fd args (ps.zip us) → Vals vs us → sp vs H Q E →
    codeAny (model P w) A (.call (.ref f) args) (CR CX outer P w H s Q E) s
theorem Env0.make {P : Program} {w : World} {K : PySem.W.Frag} {mg : Str → Option Value} {base : Heap} {A : Around} {outer : List Env} {s : Shared} {H : Hp} (e : Env0 P w K mg base A outer s H) (C : Addr) (us : List Value) (kw : List (Str × Value)) :
    Env0 P w K mg base (A.under (.builtin "type.__call__" ⟨.ref C :: us, kw⟩)) outer s H := ⟨by first | exact e.frames | (simpa [Around.under, Code.envs, Code.isFrame, pushEnvs] using e.frames), e.mod, e.bs, e.bsz, e.funs, e.frf, e.hok, e.bare⟩
section
variable {X : Cx} {pins : List (Addr × Obj)} {σ : St} {H : Hp} {s s' : Shared}
/-- from a body: what a callee wants -/
theorem Inv.env0 (I : Inv X pins σ H s) : Env0 X.prog X.w X.K X.mg X.base X.A X.stack s H :=
  ⟨I.ok.frames, I.ok.mod, I.bs, Nat.le_trans I.ok.bsz I.sz, I.stack, I.stkFree, I.hok, I.bare⟩
/-- behind a call -/
theorem Inv.after {Q : VK} {u : Value} (I : Inv X pins σ H s) (h : CE X.stack X.prog X.w H s Q u s') : EP X pins σ Q u s' := by
  obtain ⟨v, H', os, bare, un, hok, r, q⟩ := h
  obtain ⟨hh, g, d, t, os'⟩ := s'
  obtain rfl : os' = s.os := os
  exact ⟨v, H', I.call (h' := hh) (g' := g) (d' := d) (t' := t) (ch := []) un hok bare (fun b z => absurd z (by simp)), r, q⟩
end

/-! ### calls -/
/-- f(..): the written arguments, then the defaults dvs; E: what is wanted of an exception -/
def tCall (sp : Sp) (dvs : List V) (E : XK) (t : TA) : TE := fun σ H Q => t σ H fun vs H1 => sp (vs ++ dvs) H1 Q E
/-- C(..): a new instance and its dict, then __init__ -/
def tMake (C : Addr) (sp : Sp) (dvs : List V) (E : XK) (t : TA) : TE := fun σ H Q => t σ H fun vs H1 => ∀ x dx, H1 x = none → H1 dx = none → dx ≠ x →
  sp (.ref x :: (vs ++ dvs)) (upd (upd H1 dx (.own x)) x (.ins C dx [])) (fun v H2 => v = .non ∧ Q (.ref x) H2) E

/-- how the parameters are bound: us the positional arguments, kw the keywords' values by name, ds the defaults that fill up -/
def Binds (K : PySem.W.Frag) (fd : FuncData) (ps : List Str) (ds : List Value) : Prop :=
  ∀ (s : Shared) (us : List Value), K.In s.heap → (us ++ ds).length = ps.length → BindsTo s fd ⟨us, []⟩ (ps.zip (us ++ ds))
/-- every parameter is given -/
theorem Binds.all {K : PySem.W.Frag} {fd : FuncData} {ps : List Str} (h : ∀ us : List Value, us.length = ps.length → bindArgs fd ⟨us, []⟩ = pure (ps.zip us)) : Binds K fd ps [] := fun s us _ hl => by
  rw [List.append_nil] at hl ⊢
  exact .of_eq (h us hl)

/-- an exception of a callee reaches what this body wants of exceptions -/
def Passes (CX : CXT) (X : Cx) (E : XK) : Prop := ∀ (pins : List (Addr × Obj)) (σ : St) (H : Hp) (s : Shared) (e : Value) (s' : Shared), Inv X pins σ H s → CX X.stack H s E e s' → X.xe e s'

section
variable {X : Cx} {CX : CXT} {k : Nat} {f C : Addr} {fd : FuncData} {ps : List Str} {sp : Sp} {dvs : List V} {ds : List Value} {E : XK} {x m : Str} {p pos apos : Pos} {e o : Expr} {es : List Expr} {ta : TE} {t : TA}

/-- the callee runs -/
theorem run_fn {pins : List (Addr × Obj)} {σ : St} {H : Hp} {s : Shared} {Q : VK} {us : List Value} {vs : List V} (F : FnOk X.prog X.w X.K X.mg X.base CX k f fd ps sp) (hr : Room k X.A) (hb : Binds X.K fd ps ds) (hd : Vals dvs ds) (hx : Passes CX X E)
    (I : Inv X pins σ H s) (r : Vals vs us) (h : sp (vs ++ dvs) H Q E) : wpAny (model X.prog X.w) X.A (call (.ref f) us) (EP X pins σ Q) X.xe s := by
  have r2 : Vals (vs ++ dvs) (us ++ ds) := r.append hd
  have hl : (us ++ ds).length = ps.length := by rw [← r2.length]; exact F.len _ _ _ _ h
  refine wpAny_call (codeAny_mono (F.run X.A X.stack s H ⟨us, []⟩ (us ++ ds) (vs ++ dvs) Q E hr I.env0 (hb s us I.kIn hl) r2 h) fun r s' hq => ?_)
  cases r with
  | error e => exact hx pins σ H s e s' I hq
  | ok fl =>
    cases fl with
    | ret u => exact I.after hq
    | next => exact False.elim hq
    | brk => exact False.elim hq
    | cont => exact False.elim hq

theorem pe_call (F : FnOk X.prog X.w X.K X.mg X.base CX k f fd ps sp) (hr : Room k X.A) (hg : Gl X x) (hm : X.mg x = some (.ref f)) (hk : PySem.W.keepIn X.K (.ref f) = true) (hb : Binds X.K fd ps ds) (hd : Vals dvs ds) (hx : Passes CX X E)
    (ha : PA X (e :: es) t) (hdb : (x == ("__debug__" : Str)) = false := by decide) (he : starEach (e :: es) X.env = (false, eval e X.env) :: starEach es X.env := by rfl) (hpl : (backTo pos (starEach es X.env)).any (·.1) = false := by rfl) :
    PE X (.Call (.Name x p) (e :: es) [] pos) (tCall sp dvs E t) := by
  intro pins s σ H Q I h
  refine wpAny_Call_Name_kw (ld_glob I hg hm ?_ hdb)
  refine PySem.W.callWith_K (h₀ := X.base) I.ok.mod.kin hk (thn (ha pos pins s σ H _ I h) fun us s1 ⟨vs, H1, I1, r, q⟩ => ⟨I1.kIn, ?_⟩) he hpl
  exact run_fn F hr hb hd hx I1 r q
/-- what a class must have to be made -/
structure Mk (K : PySem.W.Frag) (C f : Addr) : Prop where
  makes : PySem.W.makesIn K C = true
  init : PySem.W.findIn K (.ref C) "__init__" = some (some (.ref f))
  fn : PySem.W.isFn K (.ref f) = true
  kp : PySem.W.keepIn K (.ref C) = true

theorem run_make {pins : List (Addr × Obj)} {σ : St} {H : Hp} {s : Shared} {Q : VK} {us : List Value} {vs : List V} (M : Mk X.K C f) (F : FnOk X.prog X.w X.K X.mg X.base CX k f fd ps sp) (hr : Room (k + 1) X.A) (hb : Binds X.K fd ps ds) (hd : Vals dvs ds)
    (hx : Passes CX X E) (I : Inv X pins σ H s) (r : Vals vs us)
    (h : ∀ x dx, H x = none → H dx = none → dx ≠ x → sp (.ref x :: (vs ++ dvs)) (upd (upd H dx (.own x)) x (.ins C dx [])) (fun v H2 => v = .non ∧ Q (.ref x) H2) E) :
    wpAny (model X.prog X.w) X.A (call (.ref C) us) (EP X pins σ Q) X.xe s := by
  have hq := h (s.heap.objs.size + 1) s.heap.objs.size (I.hok.fresh (Nat.le_succ _)) (I.hok.fresh (Nat.le_refl _)) (Nat.ne_of_lt (Nat.lt_succ_self _))
  have I2 := Inv.made (C := C) I
  have r2 : Vals (V.ref (s.heap.objs.size + 1) :: (vs ++ dvs)) (Value.ref (s.heap.objs.size + 1) :: (us ++ ds)) := .cons rfl (r.append hd)
  have hl : (Value.ref (s.heap.objs.size + 1) :: us ++ ds).length = ps.length := by
    have e := r2.length
    rw [F.len _ _ _ _ hq] at e
    exact e.symm
  refine wpAny_call (make_map (f := f) I.kIn M.makes M.init (beq_iff_eq.mp M.fn) (codeAny_mono (F.run _ X.stack _ _ ⟨Value.ref (s.heap.objs.size + 1) :: us, []⟩ (Value.ref (s.heap.objs.size + 1) :: (us ++ ds)) _ _ E (hr.make C us [])
    (I2.env0.make C us []) (hb _ (Value.ref (s.heap.objs.size + 1) :: us) I2.kIn hl) r2 hq) fun r s' hq' => ?_))
  cases r with
  | error e => exact hx pins σ _ _ e s' I2 hq'
  | ok fl =>
    cases fl with
    | ret u =>
      obtain ⟨v, H', I3, rv, ev, q3⟩ := I2.after hq'
      subst ev
      exact ⟨rv, ⟨V.ref (s.heap.objs.size + 1), H', I3, rfl, q3⟩⟩
    | next => exact False.elim hq'
    | brk => exact False.elim hq'
    | cont => exact False.elim hq'
theorem pe_make (M : Mk X.K C f) (F : FnOk X.prog X.w X.K X.mg X.base CX k f fd ps sp) (hr : Room (k + 1) X.A) (hg : Gl X x) (hm : X.mg x = some (.ref C)) (hb : Binds X.K fd ps ds) (hd : Vals dvs ds) (hx : Passes CX X E)
    (ha : PA X (e :: es) t) (hdb : (x == ("__debug__" : Str)) = false := by decide) (he : starEach (e :: es) X.env = (false, eval e X.env) :: starEach es X.env := by rfl) (hpl : (backTo pos (starEach es X.env)).any (·.1) = false := by rfl) :
    PE X (.Call (.Name x p) (e :: es) [] pos) (tMake C sp dvs E t) := by
  intro pins s σ H Q I h
  refine wpAny_Call_Name_kw (ld_glob I hg hm ?_ hdb)
  refine PySem.W.callWith_K (h₀ := X.base) I.ok.mod.kin M.kp (thn (ha pos pins s σ H _ I h) fun us s1 ⟨vs, H1, I1, r, q⟩ => ⟨I1.kIn, ?_⟩) he hpl
  exact run_make M F hr hb hd hx I1 r q
end

/-! ### keywords -/


/-! ### a def's body keeps its promise -/
/-- names: the parameters first -/
structure FnScope (N P : List Str) (sc : Scope) : Prop where
  kind : sc.kind = .function
  co : sc.isCoroutine = false
  gen : sc.isGenerator = false
  nd : N.Nodup
  pre : N.take P.length = P
  par : ∀ x ∈ P, sc.names.lookup x = some .local ∨ sc.names.lookup x = some .cell
  nofree : ∀ y ∈ sc.names, y.2 ≠ .free

theorem bindL_out {kindOf : Str → Option NameKind} {x : Str} : ∀ {binds : List (Str × Value)} {m : Str → Option Value}, (∀ v, (x, v) ∉ binds) → bindL kindOf binds m x = m x
  | [], _, _ => rfl
  | (n, v) :: r, m, h => by
    unfold bindL
    rw [bindL_out fun w hw => h w (List.mem_cons_of_mem _ hw)]
    split
    · have : x ≠ n := by rintro rfl; exact h v List.mem_cons_self
      simp [this]
    · rfl
theorem bindC_out {kindOf : Str → Option NameKind} {x : Str} : ∀ {binds : List (Str × Value)} {m : Str → Option Value}, (∀ v, (x, v) ∉ binds) → bindC kindOf binds m x = m x
  | [], _, _ => rfl
  | (n, v) :: r, m, h => by
    unfold bindC
    rw [bindC_out fun w hw => h w (List.mem_cons_of_mem _ hw)]
    split
    · rfl
    · have : x ≠ n := by rintro rfl; exact h v List.mem_cons_self
      simp [this]
theorem bindL_get {kindOf : Str → Option NameKind} {x : Str} {v : Value} : ∀ {P : List Str} {vs : List Value} {i : Nat} {m : Str → Option Value}, P.Nodup → P[i]? = some x → vs[i]? = some v → kindOf x = some .local →
    bindL kindOf (P.zip vs) m x = some v
  | [], _, _, _, _, h, _, _ => by simp at h
  | _ :: _, [], _, _, _, _, h, _ => by simp at h
  | p :: P, w :: vs, 0, m, nd, h1, h2, hk => by
    simp at h1 h2; subst h1; subst h2
    show bindL kindOf ((p, w) :: P.zip vs) m p = _
    unfold bindL
    rw [bindL_out fun v hv => (List.nodup_cons.mp nd).1 (List.of_mem_zip hv).1, if_pos hk]
    simp
  | p :: P, w :: vs, i + 1, m, nd, h1, h2, hk => by
    show bindL kindOf ((p, w) :: P.zip vs) m x = _
    unfold bindL
    exact bindL_get (i := i) (List.nodup_cons.mp nd).2 (by simpa using h1) (by simpa using h2) hk
theorem bindC_get {kindOf : Str → Option NameKind} {x : Str} {v : Value} : ∀ {P : List Str} {vs : List Value} {i : Nat} {m : Str → Option Value}, P.Nodup → P[i]? = some x → vs[i]? = some v → kindOf x ≠ some .local →
    bindC kindOf (P.zip vs) m x = some v
  | [], _, _, _, _, h, _, _ => by simp at h
  | _ :: _, [], _, _, _, _, h, _ => by simp at h
  | p :: P, w :: vs, 0, m, nd, h1, h2, hk => by
    simp at h1 h2; subst h1; subst h2
    show bindC kindOf ((p, w) :: P.zip vs) m p = _
    unfold bindC
    rw [bindC_out fun v hv => (List.nodup_cons.mp nd).1 (List.of_mem_zip hv).1, if_neg hk]
    simp
  | p :: P, w :: vs, i + 1, m, nd, h1, h2, hk => by
    show bindC kindOf ((p, w) :: P.zip vs) m x = _
    unfold bindC
    exact bindC_get (i := i) (List.nodup_cons.mp nd).2 (by simpa using h1) (by simpa using h2) hk

/-- the names' values at the entry -/
def start (N : List Str) (vs : List V) : St := vs.map some ++ List.replicate (N.length - vs.length) none

/-- the context of a def's body, at its entry; an exception leaves the frame, then lies as CX says -/
def cxOf (CX : CXT) (P : Program) (w : World) (K : PySem.W.Frag) (mg : Str → Option Value) (base : Heap) (N : List Str) (qual : Str) (scope : Scope) (f : Addr) (cd : Value) (A : Around) (outer : List Env) (s : Shared) (H : Hp) (E : XK) : Cx where
  prog := P
  w := w
  K := K
  mg := mg
  base := base
  A := A.deeper (envOfC qual scope s.heap.objs.size f cd)
  N := N
  s₀ := s
  H₀ := H
  env := envOfC qual scope s.heap.objs.size f cd
  outer := outer
  stack := envOfC qual scope s.heap.objs.size f cd :: outer
  ex := []
  calm := true
  fn := fun _ => true
  pn := []
  xe := fun e s' => wpAny (model P w) (A.deeper (envOfC qual scope s.heap.objs.size f cd)) (leaving (envOfC qual scope s.heap.objs.size f cd) e) (fun _ s'' => CX outer H s E e s'') (fun e' s'' => CX outer H s E e' s'') s'

theorem cell_has {sc : Scope} {n : Nat} {x : Str} (h : sc.names.lookup x = some .cell) : ∃ c, (cellsFrom n sc.names []).lookup x = some c := by
  have q := PySem.W.cellsFrom_some sc.names n [] (.inl h)
  exact Option.isSome_iff_exists.mp q

theorem inv_start {CX : CXT} {P : Program} {w : World} {K : PySem.W.Frag} {mg : Str → Option Value} {base : Heap} {N ps : List Str} {qual : Str} {scope : Scope} {f : Addr} {cd : Value} {A : Around} {outer : List Env} {s s1 : Shared} {H : Hp} {E : XK} {us : List Value} {vs : List V}
    (S : FnScope N ps scope) (hd : A.handled = none) (e0 : Env0 P w K mg base A outer s H) (hl : vs.length = ps.length) (r : Vals vs us)
    (x : InCallC s s.heap.objs.size (bindL (envOfC qual scope s.heap.objs.size f cd).kindOf (ps.zip us) fun _ => none) (cellsFrom (s.heap.objs.size + 1) scope.names []) (bindC (envOfC qual scope s.heap.objs.size f cd).kindOf (ps.zip us) fun _ => none) s1) :
    Inv (cxOf CX P w K mg base N qual scope f cd A outer s H E) [] (start N vs) H s1 := by
  have hpl : ps.length ≤ N.length := by have := congrArg List.length S.pre; rw [List.length_take] at this; omega
  obtain ⟨h1, tk, rfl, hk⟩ := x.done
  have noA : ∀ b : Addr, b ∉ (cxOf CX P w K mg base N qual scope f cd A outer s H E).ex := fun b z => absurd (show b ∈ ([] : List Addr) from z) (by simp)
  refine ⟨⟨e0.mod, S.kind, rfl, rfl, Nat.le_refl _, fun y z c h1 h2 => ?_, fun y hy => ?_, fun y c _ h => ?_, fun _ => hd, Around.frames_deeper e0.frames, .inr ⟨rfl, rfl⟩, fun b z => absurd z (noA b), e0.bs, e0.bsz, fun b _ _ => noA b, fun b z => absurd z (noA b), e0.funs, e0.frf⟩,
    rfl, e0.bare, Un.kept hk, ⟨_, x.toInCall.ns, fun i y v h1 h2 h3 => ?_⟩, fun y c h => ⟨_, x.cell y c h⟩, e0.hok.fresh (Nat.le_refl _), fun y c h => ?_, fun p hp => absurd (show p ∈ ([] : List (Addr × Obj)) from hp) (by simp), e0.hok.kept hk, ?_⟩
  · exact name_of_addr x.apart (PySem.mem_of_lookup h1) (PySem.mem_of_lookup h2)
  · have hy : scope.names.lookup y = some .cell ∨ scope.names.lookup y = some .free := hy
    rcases hy with hy | hy
    · exact cell_has hy
    · exact absurd rfl (S.nofree _ (PySem.mem_of_lookup hy))
  · exact Nat.le_of_lt (x.above y c (PySem.mem_of_lookup h))
  · have hi : i < vs.length := by
      unfold start at h2
      by_cases hi : i < vs.length
      · exact hi
      · rw [List.getElem?_append_right (by simpa using hi)] at h2
        rw [List.getElem?_replicate] at h2
        split at h2 <;> cases h2
    have ha : vs[i]? = some v := by
      unfold start at h2
      rw [List.getElem?_append_left (by simpa using hi), List.getElem?_map] at h2
      cases e : vs[i]? with
      | none => rw [e] at h2; cases h2
      | some a => rw [e] at h2; cases h2; rfl
    obtain ⟨u, hu, rv⟩ := r.get ha
    have hp : ps[i]? = some y := by
      rw [← S.pre, List.getElem?_take_of_lt (by omega)]; exact h1
    have ndP : ps.Nodup := by rw [← S.pre]; exact S.nd.sublist (List.take_sublist _ _)
    refine ⟨u, rv, ?_⟩
    rcases S.par y (List.mem_of_getElem? hp) with k | k
    · exact .inl ⟨k, bindL_get ndP hp hu k⟩
    · obtain ⟨c, e⟩ := cell_has (n := s.heap.objs.size + 1) k
      refine .inr ⟨.inl k, c, e, ?_⟩
      have q := x.cell y c e
      rw [bindC_get ndP hp hu (by show scope.names.lookup y ≠ _; rw [k]; decide)] at q
      exact q
  · exact e0.hok.fresh (Nat.le_of_lt (x.above y c (PySem.mem_of_lookup h)))
  · unfold start
    show _ = N.length
    rw [List.length_append, List.length_map, List.length_replicate]
    omega

/-- THE RULE: a def (or a method) of the text, by its body. The body's reading t is chosen for each entry; it is run at the parameters' values -/
theorem fn_of {CX : CXT} {P : Program} {w : World} {K : PySem.W.Frag} {mg : Str → Option Value} {base : Heap} {k : Nat} {f : Addr} {name qual : Str} {params : Arguments} {body : List Stmt} {scope : Scope} {dV kV doc pm cdv ct oc : Value} {an od : Option Addr}
    {osl : Array (Option Value)} {N ps : List Str} {sp : Sp} (lk : K.lookup f = some ⟨oc, od, .func (PySem.W.fnOf name qual params body scope dV kV doc pm an cdv ct), osl⟩) (hcd : PySem.W.codeIn K cdv qual = true) (S : FnScope N ps scope)
    (len : ∀ vs H Q E, sp vs H Q E → vs.length = ps.length)
    (hbody : ∀ (A : Around) (outer : List Env) (s : Shared) (H : Hp) (vs : List V) (Q : VK) (E : XK), Room k (A.deeper (envOfC qual scope s.heap.objs.size f cdv)) → sp vs H Q E →
      ∃ t, PSs (cxOf CX P w K mg base N qual scope f cdv A outer s H E) body t ∧ t { nx := fun _ H' => Q .non H', rt := Q } (start N vs) H) :
    FnOk P w K mg base CX (k + 1) f (PySem.W.fnOf name qual params body scope dV kV doc pm an cdv ct) ps sp := by
  refine ⟨len, fun A outer s H args us vs Q E hr e0 hb r hsp => ?_⟩
  have hl := len _ _ _ _ hsp
  have KX : K.In s.heap := e0.mod.kin.keeps fun b o e => (e0.bs b o e).1
  have lim : s.heap.NoLimit := e0.mod.nolimit.keeps fun b o e => (e0.bs b o e).1
  have hkind : ∀ y ∈ ps.zip us, scope.names.lookup y.1 = some .local ∨ (scope.names.lookup y.1 = some .cell ∧ ((cellsFrom (s.heap.objs.size + 1) scope.names []).lookup y.1).isSome = true) := fun ⟨n, v⟩ hy => by
    rcases S.par n (List.of_mem_zip hy).1 with q | q
    · exact .inl q
    · exact .inr ⟨q, PySem.W.cellsFrom_some _ _ _ (.inl q)⟩
  refine codeAny_call_function hr.depth (KX _ _ lk) rfl S.co S.gen rfl (PySem.W.codeRec_of KX hcd) (hb _ _ _ _ ?_)
  refine wpAny_newFunctionEnv_cells S.kind hkind fun env he s1 x => ?_
  subst he
  refine ⟨lim.keeps x.toInCall.keep, codeAny_func ?_⟩
  obtain ⟨t, ht, hq⟩ := hbody A outer s H vs Q E (hr.deeper _) hsp
  have I : Inv (cxOf CX P w K mg base N qual scope f cdv A outer s H E) [] (start N vs) H s1 := inv_start S hr.hd e0 hl r x
  refine wpAny_mono (ht [] s1 (start N vs) H _ I hq) (fun fl s' hs => ?_) fun e s' hs => hs
  have fin : ∀ {σ' : St} {H' : Hp} {v : V} {u : Value}, Inv (cxOf CX P w K mg base N qual scope f cdv A outer s H E) [] σ' H' s' → RelV v u → Q v H' → CE outer P w H s Q u s' :=
    fun {σ' H' v u} J rv q => ⟨v, H', J.os, J.bare, J.base, J.hok, rv, q⟩
  cases fl with
  | ret u =>
    obtain ⟨v, σ', H', J, rv, q⟩ := hs
    exact fin J rv q
  | next =>
    obtain ⟨σ', H', J, q⟩ := hs
    exact fin (v := V.non) (u := Value.none) J rfl q
  | brk =>
    obtain ⟨_, _, _, q⟩ := hs
    exact False.elim q
  | cont =>
    obtain ⟨_, _, _, q⟩ := hs
    exact False.elim q
end L2

namespace L2
open PySem PySem.Spec PyProof.Rows
section
variable {X : Cx} {x : Str} {p pos : Pos} {e : Expr} {es : List Expr} {t : TA} {id T : String} {r : List V → Hp → VK → Prop}

def tCB (r : List V → Hp → VK → Prop) (t : TA) : TE := fun σ H Q => t σ H fun vs H1 => r vs H1 Q
/-- f(e, ..), f a built-in function -/
theorem pe_callB (hc : CallR X (.builtin id) r) (hg : Gl X x) (hm : X.mg x = none) (hv : bootBuiltins x = some (.builtin id)) (ha : PA X (e :: es) t) (hn : x ≠ "__name__" := by decide) (hdb : (x == ("__debug__" : Str)) = false := by decide)
    (he : starEach (e :: es) X.env = (false, eval e X.env) :: starEach es X.env := by rfl) (hpl : (backTo pos (starEach es X.env)).any (·.1) = false := by rfl) : PE X (.Call (.Name x p) (e :: es) [] pos) (tCB r t) := by
  intro pins s σ H Q I h
  refine wpAny_Call_Name_kw (ld_blt I hg hm hv ?_ hn hdb)
  exact PyProof.Rows.callWith_builtin1 (thn (ha pos pins s σ H _ I h) fun us s1 ⟨vs, H1, I1, r1, q1⟩ => hc pins s1 σ H1 vs us Q I1 r1 q1) he hpl
/-- T(e, ..), T a built-in type -/
theorem pe_callTy (hc : CallR X (.type T) r) (hg : Gl X x) (hm : X.mg x = none) (hv : bootBuiltins x = some (.type T)) (ha : PA X (e :: es) t) (hn : x ≠ "__name__" := by decide) (hdb : (x == ("__debug__" : Str)) = false := by decide)
    (he : starEach (e :: es) X.env = (false, eval e X.env) :: starEach es X.env := by rfl) (hpl : (backTo pos (starEach es X.env)).any (·.1) = false := by rfl) : PE X (.Call (.Name x p) (e :: es) [] pos) (tCB r t) := by
  intro pins s σ H Q I h
  refine wpAny_Call_Name_kw (ld_blt I hg hm hv ?_ hn hdb)
  exact PyProof.Rows.callWith_type1 (thn (ha pos pins s σ H _ I h) fun us s1 ⟨vs, H1, I1, r1, q1⟩ => hc pins s1 σ H1 vs us Q I1 r1 q1) he hpl
end
end L2

namespace HT
open PySem PyProof.Rows

section
open PySem.SeqAt
open PySem.AutoSeq1 (wpAny_loadPart')
open PySem.MeetsSeq PySem.MeetsSeq2 PySem.MeetsSeq3

end

section
variable {prog : Program} {w : World} {A : Around} {E : Value → Shared → Prop} {s : Shared}

/-! ### t[a:b], not the whole -/
end
end HT

namespace L2
open PySem PySem.Spec PyProof.Rows

/-! ### the parts of a slice -/
theorem intsAre_of {ns : List Int} : ∀ {us : List Value}, Vals (ns.map V.int) us → IntsAre us ns := by
  induction ns with
  | nil => intro us r; rw [List.map_nil] at r; cases r; exact .nil
  | cons n ns ih =>
    intro us r
    rw [List.map_cons] at r
    cases r with
    | cons r1 r2 =>
      obtain ⟨t, e⟩ := r1
      subst e
      exact .cons n t (ih r2)

section
variable {X : Cx} {e : Expr} {te : TE} {lo hi : Option Expr} {tl th : TO} {pos p2 : Pos}

/-! ### t < u, t + u -/
end
end L2

namespace L2
open PySem PySem.Spec PyProof.Rows

/-! ### places -/
/-- the place that an index of any sign means -/
def ixN (n : Nat) (i : Int) : Option Nat := if 0 ≤ i then (if i < n then some i.toNat else none) else if -(n : Int) ≤ i then some (i + n).toNat else none
def atI {α : Type} (xs : List α) (i : Int) : Option α := (ixN xs.length i).bind fun j => xs[j]?
theorem ixN_seq {n : Nat} {i : Int} {j : Nat} (h : ixN n i = some j) : seqIndex? i n = some j ∧ j < n ∧ -(n : Int) ≤ i ∧ i < n := by
  unfold ixN at h
  by_cases h0 : 0 ≤ i
  · rw [if_pos h0] at h
    by_cases h1 : i < n
    · rw [if_pos h1] at h
      have e : i.toNat = j := Option.some.inj h
      exact ⟨by rw [seqIndex_of h0 h1, e], by omega, by omega, h1⟩
    · rw [if_neg h1] at h; cases h
  · rw [if_neg h0] at h
    by_cases h1 : -(n : Int) ≤ i
    · rw [if_pos h1] at h
      have e : (i + n).toNat = j := Option.some.inj h
      exact ⟨by rw [seqIndex_neg (by omega) h1, e], by omega, h1, by omega⟩
    · rw [if_neg h1] at h; cases h
theorem atI_get {α : Type} {xs : List α} {i : Int} {v : α} (h : atI xs i = some v) : ∃ j, seqIndex? i xs.length = some j ∧ xs[j]? = some v ∧ j < xs.length ∧ -(xs.length : Int) ≤ i ∧ i < xs.length := by
  unfold atI at h
  cases e : ixN xs.length i with
  | none => rw [e] at h; cases h
  | some j =>
    rw [e] at h
    obtain ⟨h1, h2, h3, h4⟩ := ixN_seq e
    exact ⟨j, h1, h, h2, h3, h4⟩
theorem atI_nat {α : Type} {xs : List α} {j : Nat} {v : α} (h : xs[j]? = some v) : atI xs (j : Int) = some v := by
  have hj : j < xs.length := (List.getElem?_eq_some_iff.mp h).1
  have e : ixN xs.length (j : Int) = some j := by
    unfold ixN
    rw [if_pos (by omega), if_pos (by omega)]; simp
  unfold atI; rw [e]; exact h
/-! ### what may be subscripted -/
/-- what stands as an index of a plain subscript -/
def PlainIx (b : Expr) : Prop := ∀ o i, subscripted b false o i = operate [o, i] (getItem o i)
/-- a subscript by values -/
def IxR (X : Cx) (r : R2) : Prop :=
  ∀ (value slice : Expr) (pins : List (Addr × Obj)) (s : Shared) (σ : St) (H : Hp) (x y : V) (v u : Value) (Q : VK), Inv X pins σ H s → RelV x v → RelV y u → r x y H Q →
    subscripted slice false v u = operate [v, u] (getItem v u) → wpAny (model X.prog X.w) X.A (subscriptTail value slice v u) (EP X pins σ Q) X.xe s
/-- a call of a builtin's method by values: the receiver, the arguments -/
def MtR (X : Cx) (id : String) (r : V → List V → Hp → VK → Prop) : Prop :=
  ∀ (pins : List (Addr × Obj)) (s : Shared) (σ : St) (H : Hp) (x : V) (xs : List V) (v : Value) (us : List Value) (Q : VK), Inv X pins σ H s → RelV x v → Vals xs us → r x xs H Q →
    wpAny (model X.prog X.w) X.A (call (.builtin id) (v :: us)) (EP X pins σ Q) X.xe s
section
variable {X : Cx} {a b : Expr} {ta tb : TE} {pos : Pos}
/-- a[b] -/
theorem pe_ix {r : R2} (hr : IxR X r) (ha : PE X a ta) (hb : PE X b tb) (hs : PlainIx b) : PE X (.Subscript a b pos) (tOp r ta tb) := by
  intro pins s σ H Q I h
  exact Subscript_ (binT ha hb I h fun v u s2 x y H2 I2 rx ry q => hr a b pins s2 σ H2 x y v u Q I2 rx ry q (hs _ _))

def rIxL (K : PySem.W.Frag) : R2 := fun x y H Q => ∃ p xs i v, x = .ref p ∧ y = .int i ∧ SqL K H p xs ∧ atI xs i = some v ∧ Q v H
theorem ix_list : IxR X (rIxL X.K) := by
  intro value slice pins s σ H x y v u Q I rx ry h hs
  obtain ⟨p, xs, i, z, rfl, rfl, hq, he, q⟩ := h
  cases rx
  obtain ⟨t, rfl⟩ := ry
  obtain ⟨its, r, pl, hz⟩ := I.list hq
  obtain ⟨j, h1, h2, h3, h4, h5⟩ := atI_get he
  obtain ⟨w, ew, rw'⟩ := r.get h2
  have hl := r.length
  have hn := line63
  have fin : EP X pins σ Q w s := ⟨z, H, I, rw', q⟩
  by_cases h0 : 0 ≤ i
  · have hj : i.toNat = j := by
      rw [seqIndex_of h0 h5] at h1
      exact Option.some.inj h1
    exact item_listR pl.isList h0 (by omega) (by rw [hj]; simpa using ew) fin hs
  · have hj : (i + (its.toArray.size : Int)).toNat = j := by
      rw [seqIndex_neg (by omega) h4] at h1
      rw [List.size_toArray, ← hl]
      exact Option.some.inj h1
    exact subscriptTail_builtinR (x := w) pl.isList.typeIs slot_list_getitem.lookup
      (wpAny_getItem_list_neg (Q := fun r s' => r = w ∧ EP X pins σ Q r s') pl.isList (by omega) (by rw [List.size_toArray] <;> omega) (by omega) (by rw [hj]; simpa using ew) ⟨rfl, fin⟩) hs
/-! ### xs[i] = v, any sign -/
/-- the list's object behind a store -/
theorem mapSeq_set (its : List Value) (n j : Nat) (u : Value) : Obj.mapSeq (·.setIfInBounds j u) { cls := .type "list", data := .seq its.toArray n } = { cls := .type "list", data := .seq (its.set j u).toArray n } := by
  simp [Obj.mapSeq]
theorem Inv.lst {pins : List (Addr × Obj)} {σ : St} {H : Hp} {s : Shared} {p : Addr} {xs : List V} (I : Inv X pins σ H s) (h : H p = some (.lst xs)) :
    ∃ (its : List Value) (n : Nat), Vals xs its ∧ s.heap.get? p = some { cls := .type "list", data := .seq its.toArray n } ∧ xs.length ≤ sizeLine := by
  obtain ⟨z, its, n, r, e⟩ := I.hok p _ h
  exact ⟨its, n, r, e, z⟩
/-- the list at p is written by an update of its object -/
theorem Inv.lstUpd {pins : List (Addr × Obj)} {σ : St} {H : Hp} {s : Shared} {p : Addr} {xs ys : List V} {its its' : List Value} {n n' : Nat} {f : Obj → Obj} (I : Inv X pins σ H s) (h : H p = some (.lst xs))
    (ho : s.heap.get? p = some { cls := .type "list", data := .seq its.toArray n }) (hf : f { cls := .type "list", data := .seq its.toArray n } = { cls := .type "list", data := .seq its'.toArray n' }) (r : Vals ys its') (hz : ys.length ≤ sizeLine) (t : Nat) :
    Inv X pins σ (upd H p (.lst ys)) { s with heap := s.heap.update p f, toks := t } := by
  have e : (s.heap.update p f).get? p = some { cls := .type "list", data := .seq its'.toArray n' } := by
    rw [Heap.get?_update_self f ho (by rw [hf] <;> rfl), hf]
  refine I.write (x := p) (e := p) (by rw [h]; trivial) (.inl rfl) (fun b u hb q => (Heap.get?_update_other _ _ (Ne.symm hb)).trans q) ⟨_, e⟩ ?_
  exact ⟨hz, its', n', r, e⟩
def rSetL : V → V → V → Hp → (Hp → Prop) → Prop := fun o i v H Q => ∃ p xs k j, o = .ref p ∧ i = .int k ∧ H p = some (.lst xs) ∧ ixN xs.length k = some j ∧ Q (upd H p (.lst (xs.set j v)))
theorem set_list : PSet X rSetL := by
  intro pins s σ H o i v ov iv u Q I ro ri rv h
  obtain ⟨p, xs, k, j, rfl, rfl, hp, hj, q⟩ := h
  cases ro
  obtain ⟨t, rfl⟩ := ri
  obtain ⟨its, n, r, ho, hz⟩ := I.lst hp
  obtain ⟨h1, h2, h3, h4⟩ := ixN_seq hj
  have hl := r.length
  have hn := line63
  have I' : Inv X pins σ (upd H p (.lst (xs.set j v))) { s with heap := s.heap.update p (Obj.mapSeq (·.setIfInBounds j u)) } :=
    I.lstUpd hp ho (mapSeq_set its n j u) (r.set rv j) (by rw [List.length_set]; exact hz) s.toks
  by_cases h0 : 0 ≤ k
  · have hk : k.toNat = j := by
      rw [seqIndex_of h0 h4] at h1
      exact Option.some.inj h1
    exact PySem.W.ki_setAt ho h0 (by omega) (by rw [List.size_toArray, ← hl]; exact h4) (by rw [hk]; exact ⟨_, I', q⟩)
  · have hk : (k + (its.toArray.size : Int)).toNat = j := by
      rw [seqIndex_neg (by omega) h3] at h1
      rw [List.size_toArray, ← hl]
      exact Option.some.inj h1
    exact PySem.W.ki_setBack ho (by omega) (by rw [List.size_toArray, ← hl]; exact h3) (by omega) (by rw [hk]; exact ⟨_, I', q⟩)

/-! ### slices -/
/-! ### in, not in: flat items -/
/-! ### len, list(x), tuple(x) of any list or tuple that is read -/
theorem call_len_seq : CallR X (.builtin "len") (fun xs H Q => ∃ p ys, xs = [.ref p] ∧ (SqL X.K H p ys ∨ SqT X.K H p ys) ∧ Q (.int ys.length) H) := by
  intro pins s σ H xs us Q I r h
  obtain ⟨p, ys, rfl, hq, q⟩ := h
  obtain ⟨u, rfl, rx⟩ := vals1 r
  cases rx
  have hn := line63
  rcases hq with hq | hq
  · obtain ⟨its, r', pl, hz⟩ := I.list hq
    have hlen := r'.length
    exact Calls.call_len_list pl.isList (by simp only [List.size_toArray] <;> omega) ⟨.int ys.length, H, I.tok _, ⟨s.toks + 1, by rw [List.size_toArray, hlen]⟩, q⟩
  · obtain ⟨its, r', pl, hz⟩ := I.tuple hq
    have hlen := r'.length
    exact len_tuple pl (by simp only [List.size_toArray] <;> omega) ⟨.int ys.length, H, I.tok _, ⟨s.toks + 1, by rw [List.size_toArray, hlen]⟩, q⟩
theorem call_list_of : CallR X (.type "list") (fun xs H Q => ∃ p ys, xs = [.ref p] ∧ (SqL X.K H p ys ∨ SqT X.K H p ys) ∧ ∀ l, H l = none → Q (.ref l) (upd H l (.lst ys))) := by
  intro pins s σ H xs us Q I r h
  obtain ⟨p, ys, rfl, hq, q⟩ := h
  obtain ⟨u, rfl, rx⟩ := vals1 r
  cases rx
  have fin : ∀ (its : List Value), Vals ys its → ys.length ≤ sizeLine → ∀ (h' : Heap) (c' : Nat), (∀ b o', s.heap.get? b = some o' → h'.get? b = some o') →
      h'.get? s.heap.objs.size = some { cls := .type "list", dict := none, data := .seq its.toArray c', slots := #[] } → EP X pins σ Q (.ref s.heap.objs.size) { s with heap := h' } := fun its r' hz h' c' kp e =>
    ⟨.ref s.heap.objs.size, _, I.laid (t' := s.toks) kp (Nat.le_refl _) (show ObjOk X.prog X.w _ h' _ (.lst ys) from ⟨hz, its, c', r', e⟩), rfl, q _ (I.hok.fresh (Nat.le_refl _))⟩
  rcases hq with hq | hq
  · obtain ⟨its, r', pl, hz⟩ := I.list hq
    have hlen := r'.length
    obtain ⟨o, ho, hc, n, hd⟩ := pl.isList
    exact call_list_seq p (.inl rfl) ho hc hd (fun h' c' kp e => fin its r' hz h' c' kp e) (by simp only [List.size_toArray] <;> omega)
  · obtain ⟨its, r', pl, hz⟩ := I.tuple hq
    have hlen := r'.length
    obtain ⟨o, ho, hc, n, hd⟩ := pl
    exact call_list_seq p (.inr rfl) ho hc hd (fun h' c' kp e => fin its r' hz h' c' kp e) (by simp only [List.size_toArray] <;> omega)
theorem call_tuple_of : CallR X (.type "tuple") (fun xs H Q => ∃ p ys, xs = [.ref p] ∧ ((SqL X.K H p ys ∧ ∀ l, H l = none → Q (.ref l) (upd H l (.tup ys))) ∨ (SqT X.K H p ys ∧ Q (.ref p) H))) := by
  intro pins s σ H xs us Q I r h
  obtain ⟨p, ys, rfl, h⟩ := h
  obtain ⟨u, rfl, rx⟩ := vals1 r
  cases rx
  rcases h with ⟨hq, q⟩ | ⟨hq, q⟩
  · obtain ⟨its, r', pl, hz⟩ := I.list hq
    have hlen := r'.length
    refine call_tuple_list pl.isList (fun h' kp => ?_) (by simp only [List.size_toArray] <;> omega)
    have I1 : Inv X pins σ H { s with heap := h' } := I.kept (t' := s.toks) kp
    have I2 : Inv X pins σ (upd H h'.objs.size (.tup ys)) { s with heap := h'.push { cls := .type "tuple", data := .seq its.toArray } } :=
      I1.laid (t' := s.toks) (fun b o e => Heap.get?_push_of_some _ e) (Nat.le_refl _) (show ObjOk X.prog X.w _ _ _ (.tup ys) from ⟨hz, its, r', IsTup.new _ _⟩)
    exact ⟨.ref h'.objs.size, _, I2, rfl, q _ (I1.hok.fresh (Nat.le_refl _))⟩
  · obtain ⟨its, r', pl, hz⟩ := I.tuple hq
    exact call_tuple_same pl ⟨.ref p, H, I, rfl, q⟩

/-! ### the call of a builtin's method: o.m(..) -/
/-- the value is of that builtin type -/
def tyV (K : PySem.W.Frag) (T : String) (x : V) (H : Hp) : Prop := match x with
  | .str _ => T = "str"
  | .int _ => T = "int"
  | .ref p => (T = "list" ∧ ∃ xs, SqL K H p xs) ∨ (T = "tuple" ∧ ∃ o, K.lookup p = some o ∧ o.cls = .type "tuple" ∧ o.dict = none) ∨
      (T = "dict" ∧ ((∃ kvs, H p = some (.dK kvs)) ∨ ∃ kvs, H p = some (.dT kvs))) ∨ (T = "set" ∧ ∃ S n, H p = some (.set S n))
  | _ => False
theorem tyV_is {pins : List (Addr × Obj)} {σ : St} {H : Hp} {s : Shared} {T : String} {x : V} {v : Value} (I : Inv X pins σ H s) (r : RelV x v) (ty : tyV X.K T x H) :
    s.TypeIs v T ∧ ∀ a, v = .ref a → ∃ ob, s.heap.get? a = some ob ∧ ob.dict = none := by
  cases x with
  | str z =>
    obtain ⟨t, rfl⟩ := r
    cases (show T = "str" from ty)
    exact ⟨typeIs_str s z t, fun _ e => nomatch e⟩
  | int i =>
    obtain ⟨t, rfl⟩ := r
    cases (show T = "int" from ty)
    exact ⟨typeIs_int s i t, fun _ e => nomatch e⟩
  | ref p =>
    cases r
    rcases ty with ⟨rfl, xs, hq⟩ | ⟨rfl, o, hk, hc, hd⟩ | ⟨rfl, hk⟩ | ⟨rfl, S, n, hk⟩
    · obtain ⟨its, _, pl, _⟩ := I.list hq
      refine ⟨pl.isList.typeIs, fun a e => ?_⟩
      cases e
      obtain ⟨o, n, e, c, hd, _⟩ := pl
      exact ⟨o, e, hd⟩
    · refine ⟨⟨o, I.kIn p o hk, hc⟩, fun a e => ?_⟩
      cases e
      exact ⟨o, I.kIn _ o hk, hd⟩
    · have z : ∃ o, s.heap.get? p = some o ∧ o.ExactDict := by
        rcases hk with ⟨kvs, hk⟩ | ⟨kvs, hk⟩
        · obtain ⟨_, _, _, _, o, _, _, e, ex, _⟩ := I.hok p _ hk
          exact ⟨o, e, ex⟩
        · obtain ⟨_, _, _, _, o, _, _, e, ex, _⟩ := I.hok p _ hk
          exact ⟨o, e, ex⟩
      obtain ⟨o, e, ex⟩ := z
      refine ⟨⟨o, e, ex.1⟩, fun a e2 => ?_⟩
      cases e2
      exact ⟨o, e, ex.2.1⟩
    · obtain ⟨o, _, _, _, e, ex, _⟩ := I.hok p _ hk
      refine ⟨⟨o, e, ex.1⟩, fun a e2 => ?_⟩
      cases e2
      exact ⟨o, e, ex.2.1⟩
  | _ => exact False.elim ty
def tBM (K : PySem.W.Frag) (T : String) (r : V → List V → Hp → VK → Prop) (to : TE) (t : TA) : TE := fun σ H Q => to σ H fun x H1 => tyV K T x H1 ∧ t σ H1 fun xs H2 => r x xs H2 Q
variable {o e : Expr} {es : List Expr} {to : TE} {t : TA} {name : Str} {apos cpos : Pos} {T id : String} {r : V → List V → Hp → VK → Prop}
theorem pe_bm (pa : PlainAttrs T) (slot : Slot T name id) (hty : typeOf (.builtin id) = pure (.type "method_descriptor")) (hm : MtR X id r) (ho : PE X o to) (ha : PA X (e :: es) t)
    (hbase : attributeBase o name X.env (eval o X.env) = eval o X.env := by rfl)
    (hfew : ((backTo cpos (starEach (e :: es) X.env)).all (fun x => !x.1) && (backToKw cpos (keywordEach [] X.env)).all (fun x => x.1.isSome)
      && decide ((e :: es).length + ([] : List Keyword).length + (if ([] : List Keyword).isEmpty then 0 else 1) < 30)) = true := by rfl)
    (hline : (apos.endLine == cpos.line) = true := by rfl) (hs : starEach (e :: es) X.env = (false, eval e X.env) :: starEach es X.env := by rfl) (hplain : (backTo cpos (starEach es X.env)).any (·.1) = false := by rfl) :
    PE X (.Call (.Attribute o name apos) (e :: es) [] cpos) (tBM X.K T r to t) := by
  intro pins s σ H Q I h
  refine wpAny_Call_method_late hbase hfew hline rfl (thn (ho pins s σ H _ I h) fun v s1 ⟨x, H1, I1, r1, ty, q1⟩ => ?_)
  obtain ⟨h1, h2⟩ := tyV_is I1 r1 ty
  refine ⟨T, id, pa, slot, hty, h1, h2, ?_⟩
  have hA := ha cpos pins s1 σ H1 _ I1 q1
  rw [hs] at hA ⊢
  refine Calls.callWith_builtin (by show (false || (backTo cpos (starEach es X.env)).any (·.1)) = false; rw [hplain] <;> rfl) (Calls.evalArgs_plain ?_)
  exact thn hA fun us s2 ⟨vs, H2, I2, r2, q2⟩ => hm pins s2 σ H2 x vs v us Q I2 r1 r2 q2
/- xs.append(e), list.index on a module's tuple .. are MtR facts of 06m -/
end
end L2

namespace L2
open PySem PySem.Spec PyProof.Rows

def MtM (X : Cx) (id : String) (r : V → List V → Hp → VK → Prop) : Prop :=
  ∀ (pins : List (Addr × Obj)) (s : Shared) (σ : St) (H : Hp) (x : V) (xs : List V) (v : Value) (us : List Value) (Q : VK), Inv X pins σ H s → RelV x v → Vals xs us → r x xs H Q →
    wpAny (model X.prog X.w) X.A (call (.builtin id) (v :: us)) (EP X pins σ Q) X.xe s

/-! ### lists of values -/
theorem Vals.one : ∀ {x : V} {us : List Value}, Vals [x] us → ∃ u, us = [u] ∧ RelV x u
  | _, _, .cons r .nil => ⟨_, rfl, r⟩
section
variable {X : Cx} {pins : List (Addr × Obj)} {σ : St} {H : Hp} {s : Shared} {l b : Addr} {xs ys zs : List V}

/-! ### the two steps: a tracked list is rewritten, a new list is laid -/
theorem Inv.lset {its its' : List Value} {n : Nat} {f : Array Value → Array Value} {t' : Nat} (I : Inv X pins σ H s) (hH : H l = some (.lst xs))
    (e : s.heap.get? l = some { cls := .type "list", data := .seq its.toArray n }) (hf : f its.toArray = its'.toArray) (hv : Vals ys its') (hz : ys.length ≤ sizeLine) :
    Inv X pins σ (upd H l (.lst ys)) { s with heap := s.heap.update l (Obj.mapSeq f), toks := t' } := by
  have q := PySem.IsL.update e f
  rw [hf] at q
  refine I.write (x := l) (e := l) (by rw [hH]; exact trivial) (.inl rfl) (fun b' u hb hu => (Heap.get?_update_other s.heap (Obj.mapSeq f) (Ne.symm hb)).trans hu) ⟨_, q⟩ ?_
  exact ⟨hz, its', _, hv, q⟩
theorem Inv.lnew {its : List Value} {t' : Nat} (I : Inv X pins σ H s) (hv : Vals ys its) (hz : ys.length ≤ sizeLine) :
    Inv X pins σ (upd H s.heap.objs.size (.lst ys)) { s with heap := s.heap.push { cls := .type "list", data := .seq its.toArray }, toks := t' } :=
  I.laid (fun _ _ q => Heap.get?_push_of_some _ q) (Nat.le_refl _) ⟨hz, its, 0, hv, Heap.get?_push_size _ rfl⟩
theorem Inv.fresh (I : Inv X pins σ H s) : H s.heap.objs.size = none := I.hok.fresh (Nat.le_refl _)
theorem Inv.lstM (I : Inv X pins σ H s) (hH : H l = some (.lst xs)) : xs.length ≤ sizeLine ∧ ∃ (its : List Value) (n : Nat), Vals xs its ∧ xs.length = its.length ∧ s.heap.get? l = some { cls := .type "list", data := .seq its.toArray n } := by
  obtain ⟨z, its, n, r, e⟩ := I.hok l _ hH
  exact ⟨z, its, n, r, r.length, e⟩

end

section
variable {X : Cx}

/-! ### methods -/
def rAppend : V → List V → Hp → VK → Prop := fun x vs H Q => ∃ l xs y, x = .ref l ∧ vs = [y] ∧ H l = some (.lst xs) ∧ xs.length < sizeLine ∧ Q .non (upd H l (.lst (xs ++ [y])))
theorem mt_append : MtM X "list.append" rAppend := by
  intro pins s σ H x vs v us Q I rx rv h
  obtain ⟨l, xs, y, rfl, rfl, hH, hz, q⟩ := h
  cases rx
  obtain ⟨u, rfl, ru⟩ := rv.one
  obtain ⟨z, its, n, r, hl, e⟩ := I.lstM hH
  refine call_meets F.slot_list_append ⟨_, e, rfl⟩ F.entry_list_append (F.args_list_append_2 _ _) (PySem.list_append l its.toArray n u (by rw [List.size_toArray]; omega)) ⟨e, ?_⟩
  refine ⟨.non, _, I.lset (its' := its ++ [u]) hH e (by simp) (r.append (.cons ru .nil)) ?_, rfl, q⟩
  rw [List.length_append, List.length_singleton]
  omega

/-! ### list + list, list += list, list * int -/
def rCat : R2 := fun x y H Q => ∃ l b xs zs, x = .ref l ∧ y = .ref b ∧ H l = some (.lst xs) ∧ H b = some (.lst zs) ∧ xs.length + zs.length ≤ sizeLine ∧ ∀ p, H p = none → Q (.ref p) (upd H p (.lst (xs ++ zs)))
theorem op_cat : OpR X (binaryOp .Add) rCat := by
  intro pins s σ H x y v u Q I rx ry h
  obtain ⟨l, b, xs, zs, rfl, rfl, hH, hB, hz, q⟩ := h
  cases rx
  cases ry
  obtain ⟨z, its, n, r, hl, e⟩ := I.lstM hH
  obtain ⟨z2, its2, n2, r2, hl2, e2⟩ := I.lstM hB
  refine PySem.P.add_list e e2 ?_ (by rw [List.size_toArray, List.size_toArray]; omega)
  have ea : its.toArray ++ its2.toArray = (its ++ its2).toArray := by simp
  rw [ea]
  exact ⟨.ref _, _, I.lnew (t' := s.toks) (r.append r2) (by rw [List.length_append]; omega), rfl, q _ I.fresh⟩
/-! ### del xs[i] -/
end

/-! ### xs[a:b] = ys -/
section
variable {prog : Program} {w : World} {A : Around} {E : Value → Shared → Prop} {s : Shared}
set_option maxRecDepth 100000 in
end


end L2
namespace L2
open PySem PySem.Spec PyProof.Rows

/-! ### lists of pairs as tables -/
section
variable {κ : Type} [DecidableEq κ]
def valV (kvs : List (κ × V)) (k : κ) : Option V := (kvs.find? fun kv => decide (kv.1 = k)).map (·.2)
/-- in its place, or at the end -/
def putK (kvs : List (κ × V)) (k : κ) (v : V) : List (κ × V) :=
  if (kvs.any fun kv => decide (kv.1 = k)) = true then kvs.map (fun kv => if kv.1 = k then (kv.1, v) else kv) else kvs ++ [(k, v)]
theorem valV_nil {k : κ} : valV ([] : List (κ × V)) k = none := rfl
theorem valV_pos {p : κ × V} {r : List (κ × V)} {k : κ} (e : p.1 = k) : valV (p :: r) k = some p.2 := by simp [valV, List.find?_cons, e]
theorem valV_neg {p : κ × V} {r : List (κ × V)} {k : κ} (e : ¬ p.1 = k) : valV (p :: r) k = valV r k := by simp [valV, List.find?_cons, e]
theorem valV_any (k : κ) : ∀ kvs : List (κ × V), (kvs.any fun kv => decide (kv.1 = k)) = (valV kvs k).isSome
  | [] => rfl
  | p :: r => by
    rw [List.any_cons]
    by_cases e : p.1 = k
    · simp only [valV_pos e, decide_eq_true e, Bool.true_or, Option.isSome_some]
    · rw [valV_neg e, decide_eq_false e, Bool.false_or]; exact valV_any k r
theorem length_putK (kvs : List (κ × V)) (k : κ) (v : V) : (putK kvs k v).length ≤ kvs.length + 1 := by
  unfold putK
  split
  · rw [List.length_map]; omega
  · rw [List.length_append, List.length_cons, List.length_nil]; omega
theorem putK_new {kvs : List (κ × V)} {k : κ} (v : V) (h : valV kvs k = none) : putK kvs k v = kvs ++ [(k, v)] := by
  unfold putK
  rw [valV_any, h]
  exact if_neg (by decide)

theorem RelO.isSome_eq {o : Option V} {u : Option Value} (r : RelO o u) : o.isSome = u.isSome := by
  cases o with
  | none => cases u with
    | none => rfl
    | some _ => exact (show False from r).elim
  | some _ => cases u with
    | none => exact (show False from r).elim
    | some _ => rfl
/-- raw tables of the same keys -/
theorem KV.val {kvs : List (κ × V)} {vs : List (κ × Value)} (r : KV kvs vs) (k : κ) : RelO (valV kvs k) (valueAt vs k) := by
  unfold KV at r
  induction r with
  | nil => exact True.intro
  | @cons p q ps qs h t ih =>
    obtain ⟨h1, h2⟩ := h
    by_cases e : p.1 = k
    · have e' : q.1 = k := h1.symm.trans e
      have b : valueAt (q :: qs) k = some q.2 := by simp [valueAt, List.find?_cons, e']
      rw [valV_pos e, b]; exact h2
    · have e' : ¬ q.1 = k := fun z => e (h1.trans z)
      have b : valueAt (q :: qs) k = valueAt qs k := by simp [valueAt, List.find?_cons, e']
      rw [valV_neg e, b]; exact ih
theorem KV.any {kvs : List (κ × V)} {vs : List (κ × Value)} (r : KV kvs vs) (k : κ) : (kvs.any fun kv => decide (kv.1 = k)) = vs.any fun kv => decide (kv.1 = k) := by
  unfold KV at r
  induction r with
  | nil => rfl
  | cons h t ih => rw [List.any_cons, List.any_cons, ih, h.1]
theorem KV.repl {kvs : List (κ × V)} {vs : List (κ × Value)} (r : KV kvs vs) (k : κ) {y : V} {u : Value} (ry : RelV y u) :
    KV (kvs.map fun kv => if kv.1 = k then (kv.1, y) else kv) (vs.map fun kv => if kv.1 = k then (kv.1, u) else kv) := by
  unfold KV at r ⊢
  induction r with
  | nil => exact .nil
  | @cons p q ps qs h t ih =>
    rw [List.map_cons, List.map_cons]
    refine .cons ?_ ih
    obtain ⟨h1, h2⟩ := h
    by_cases e : p.1 = k
    · rw [if_pos e, if_pos (h1.symm.trans e)]; exact ⟨h1, ry⟩
    · rw [if_neg e, if_neg (fun z => e (h1.trans z))]; exact ⟨h1, h2⟩
theorem KV.put {kvs : List (κ × V)} {vs : List (κ × Value)} (r : KV kvs vs) (k : κ) {y : V} {u : Value} (ry : RelV y u) : KV (putK kvs k y) (stored vs k u) := by
  unfold putK stored
  rw [r.any k]
  by_cases e : (vs.any fun kv => decide (kv.1 = k)) = true
  · rw [if_pos e, if_pos e]; exact r.repl k ry
  · rw [if_neg e, if_neg e]; exact Paired.snoc r ⟨rfl, ry⟩
theorem KV.length {kvs : List (κ × V)} {vs : List (κ × Value)} (r : KV kvs vs) : kvs.length = vs.length := Paired.length r
end


/-! ### a tracked dict, its keys ints and texts or tuples of these -/
theorem kV_is {P : Program} {w : World} {k : Key} {u : Value} (r : RelV (kV k) u) : (mixKind P w).is k u = true := by
  cases k with
  | inl i => obtain ⟨t, e⟩ := (show ∃ t, u = Value.int i t from r); subst e; exact mixKind_int P w i t
  | inr x => obtain ⟨t, e⟩ := (show ∃ t, u = Value.str x t from r); subst e; exact mixKind_str P w x t
theorem items_are {P : Program} {w : World} : ∀ {ks : List Key} {us : List Value}, Vals (ks.map kV) us → ItemsAre (mixKind P w) ks us
  | [], _, r => by rw [List.map_nil] at r; cases r; exact .nil
  | k :: ks, _, r => by
    rw [List.map_cons] at r
    cases r with
    | cons h t => exact .cons (kV_is h) (items_are t)

/-- raw entries of a dict with tuple keys -/
abbrev KT (H : Hp) : List (List Key × V) → List (List Key × Addr × Value) → Prop := Paired fun p q => p.1 = q.1 ∧ H q.2.1 = some (.tup (p.1.map kV)) ∧ RelV p.2 q.2.2
theorem KT.val {H : Hp} {kvs : List (List Key × V)} {xs : List (List Key × Addr × Value)} (r : KT H kvs xs) (k : List Key) : RelO (valV kvs k) ((atKey xs k).map (·.2)) := by
  induction r with
  | nil => exact True.intro
  | @cons p q ps qs h t ih =>
    obtain ⟨h1, _, h2⟩ := h
    by_cases e : p.1 = k
    · have e' : q.1 = k := h1.symm.trans e
      have b : atKey (q :: qs) k = some q.2 := by simp [atKey, List.find?_cons, e']
      rw [valV_pos e, b]; exact h2
    · have e' : ¬ q.1 = k := fun z => e (h1.trans z)
      have b : atKey (q :: qs) k = atKey qs k := by simp [atKey, List.find?_cons, e']
      rw [valV_neg e, b]; exact ih
theorem KT.repl {H : Hp} {kvs : List (List Key × V)} {xs : List (List Key × Addr × Value)} (r : KT H kvs xs) (k : List Key) {y : V} {u : Value} (ry : RelV y u) :
    KT H (kvs.map fun kv => if kv.1 = k then (kv.1, y) else kv) (xs.map (putAt k u)) := by
  induction r with
  | nil => exact .nil
  | @cons p q ps qs h t ih =>
    rw [List.map_cons, List.map_cons]
    refine .cons ?_ ih
    obtain ⟨h1, h2, h3⟩ := h
    unfold putAt
    by_cases e : p.1 = k
    · rw [if_pos e, if_pos (h1.symm.trans e)]; exact ⟨h1, h2, ry⟩
    · rw [if_neg e, if_neg (fun z => e (h1.trans z))]; exact ⟨h1, h2, h3⟩
theorem KT.put {H : Hp} {kvs : List (List Key × V)} {xs : List (List Key × Addr × Value)} (r : KT H kvs xs) (k : List Key) {b : Addr} {y : V} {u : Value} (hb : H b = some (.tup (k.map kV))) (ry : RelV y u) :
    KT H (putK kvs k y) (storedH xs k b u) := by
  have e : (kvs.any fun kv => decide (kv.1 = k)) = (atKey xs k).isSome := by
    rw [valV_any, (r.val k).isSome_eq, Option.isSome_map]
  unfold putK storedH
  rw [e]
  by_cases q : (atKey xs k).isSome = true
  · rw [if_pos q, if_pos q]; exact r.repl k ry
  · rw [if_neg q, if_neg q]; exact Paired.snoc r ⟨rfl, hb, ry⟩
theorem KT.keeps {H H' : Hp} {kvs : List (List Key × V)} {xs : List (List Key × Addr × Value)} (r : KT H kvs xs) (ht : ∀ b ys, H b = some (.tup ys) → H' b = some (.tup ys)) : KT H' kvs xs :=
  Paired.mapP r fun _ _ z => ⟨z.1, ht _ _ z.2.1, z.2.2⟩

section
variable {P : Program} {w : World} {H : Hp} {h : Heap} {a : Addr}
theorem rd_of {u : HO} (ok : HOk P w H h) (e : Rd H a u) : ObjOk P w H h a u := e.ok ok
theorem dk_rd {kvs : List (Key × V)} (ok : HOk P w H h) (e : Rd H a (.dK kvs)) : kvs.length ≤ sizeLine ∧ (a == sysModules) = false ∧ ∃ vs, KV kvs vs ∧ h.DictOf (mixKind P w) a vs :=
  show ObjOk P w H h a (.dK kvs) from rd_of ok e
theorem dk_of {kvs : List (Key × V)} (ok : HOk P w H h) (e : H a = some (.dK kvs)) : kvs.length ≤ sizeLine ∧ (a == sysModules) = false ∧ ∃ vs, KV kvs vs ∧ h.DictOf (mixKind P w) a vs := dk_rd ok (.inl e)
/-- a tracked tuple of ints and texts is a key -/
theorem key_of {ks : List Key} (ok : HOk P w H h) (e : H a = some (.tup (ks.map kV))) : (tupleKind (mixKind P w)).is h ks a := by
  obtain ⟨_, its, r, o, h1, h2, n, h3⟩ := (show ObjOk P w H h a (.tup (ks.map kV)) from ok a _ e)
  exact ⟨o, its.toArray, n, h1, h2, h3, by simpa using items_are r⟩
theorem dt_rd {kvs : List (List Key × V)} (ok : HOk P w H h) (e : Rd H a (.dT kvs)) : kvs.length ≤ sizeLine ∧ (a == sysModules) = false ∧
    ∃ xs, KT H kvs xs ∧ h.DictOfH (tupleKind (mixKind P w)) a xs := by
  obtain ⟨z, y, xs, r, o, es, ep, h1, h2, h3, h4, h5⟩ := (show ObjOk P w H h a (.dT kvs) from rd_of ok e)
  refine ⟨z, y, xs, r, o, es, ep, h1, h2, h3, h4, fun x hx => ?_, h5⟩
  have all : ∀ {l : List (List Key × V)} {m : List (List Key × Addr × Value)}, KT H l m → ∀ x ∈ m, (tupleKind (mixKind P w)).is h x.1 x.2.1 := by
    intro l m q
    induction q with
    | nil => intro x hx; exact nomatch hx
    | @cons p q ps qs hq t ih =>
      intro x hx
      rcases List.mem_cons.mp hx with e | hx
      · subst e
        exact key_of ok (by rw [← hq.1]; exact hq.2.1)
      · exact ih x hx
  exact all r x hx
theorem dt_of {kvs : List (List Key × V)} (ok : HOk P w H h) (e : H a = some (.dT kvs)) : kvs.length ≤ sizeLine ∧ (a == sysModules) = false ∧
    ∃ xs, KT H kvs xs ∧ h.DictOfH (tupleKind (mixKind P w)) a xs := dt_rd ok (.inl e)
end

/-- what the dict at a holds at the key y -/
def DGet (H : Hp) (a : Addr) (y : V) (r : Option V) : Prop :=
  (∃ kvs k, Rd H a (.dK kvs) ∧ y = kV k ∧ r = valV kvs k) ∨ ∃ kvs k b, Rd H a (.dT kvs) ∧ y = .ref b ∧ H b = some (.tup (k.map kV)) ∧ r = valV kvs k
/-- the heap behind a[y] = v -/
def DPut (H : Hp) (a : Addr) (y v : V) (H' : Hp) : Prop :=
  (∃ kvs k, H a = some (.dK kvs) ∧ y = kV k ∧ kvs.length < sizeLine ∧ H' = upd H a (.dK (putK kvs k v))) ∨
  ∃ kvs k b, H a = some (.dT kvs) ∧ y = .ref b ∧ H b = some (.tup (k.map kV)) ∧ kvs.length < sizeLine ∧ H' = upd H a (.dT (putK kvs k v))
theorem DGet.k {H : Hp} {a : Addr} {kvs : List (Key × V)} {k : Key} (e : H a = some (.dK kvs)) : DGet H a (kV k) (valV kvs k) := .inl ⟨kvs, k, .inl e, rfl, rfl⟩
theorem DGet.t {H : Hp} {a b : Addr} {kvs : List (List Key × V)} {k : List Key} (e : H a = some (.dT kvs)) (eb : H b = some (.tup (k.map kV))) : DGet H a (.ref b) (valV kvs k) := .inr ⟨kvs, k, b, .inl e, rfl, eb, rfl⟩
theorem DPut.k {H : Hp} {a : Addr} {kvs : List (Key × V)} {k : Key} {v : V} (e : H a = some (.dK kvs)) (hl : kvs.length < sizeLine) : DPut H a (kV k) v (upd H a (.dK (putK kvs k v))) := .inl ⟨kvs, k, e, rfl, hl, rfl⟩
theorem DPut.t {H : Hp} {a b : Addr} {kvs : List (List Key × V)} {k : List Key} {v : V} (e : H a = some (.dT kvs)) (eb : H b = some (.tup (k.map kV))) (hl : kvs.length < sizeLine) :
    DPut H a (.ref b) v (upd H a (.dT (putK kvs k v))) := .inr ⟨kvs, k, b, e, rfl, eb, hl, rfl⟩


section
variable {X : Cx} {pins : List (Addr × Obj)} {σ : St} {H : Hp} {s : Shared} {a : Addr} {y v : V} {u r : Value} {o : Option V} {A : Around} {E : Value → Shared → Prop}

theorem Inv.big (I : Inv X pins σ H s) : sysModules < s.heap.objs.size := by
  have h : mainGlobals < s.heap.objs.size := (I.mod.glob.keeps I.bk).lt
  exact Nat.lt_trans (by decide) h

/-- d[y], there -/
theorem d_getItem {Q : Value → Shared → Prop} (hu : A.units + 1 < cLine) (I : Inv X pins σ H s) (g : DGet H a y (some v)) (ry : RelV y u) (h : ∀ w' s', Inv X pins σ H s' → RelV v w' → Q w' s') :
    wpAny (model X.prog X.w) A (getItem (.ref a) u) Q E s := by
  rcases g with ⟨kvs, k, e, ey, l⟩ | ⟨kvs, k, b, e, ey, eb, l⟩
  · subst ey
    obtain ⟨z, hd, vs, rel, dd⟩ := dk_rd I.hok e
    obtain ⟨w', hw, rw'⟩ := RelO.some_of (v := v) (o := valueAt vs k) (by rw [l]; exact rel.val k)
    exact wpAny_getItem_of (kV_is ry) dd.mapOf hw (h w' _ (I.tok _) rw')
  · subst ey
    cases (show u = Value.ref b from ry)
    obtain ⟨z, hd, xs, rel, dd⟩ := dt_rd I.hok e
    obtain ⟨w', hw, rw'⟩ := RelO.some_of (v := v) (o := (atKey xs k).map (·.2)) (by rw [l]; exact rel.val k)
    obtain ⟨p, hp, hp2⟩ := Option.map_eq_some_iff.mp hw
    refine wpAny_getItem_heap (tupleKind_room_in1 hu) (key_of I.hok eb) dd hp ?_
    rw [hp2]
    exact h w' _ (I.tok _) rw'
theorem d_notIn {Q : Value → Shared → Prop} (hu : A.units + 1 < cLine) (I : Inv X pins σ H s) (g : DGet H a y o) (ry : RelV y u) (h : ∀ s', Inv X pins σ H s' → Q (.bool (!o.isSome)) s') :
    wpAny (model X.prog X.w) A (compareOp .NotIn u (.ref a)) Q E s := by
  rcases g with ⟨kvs, k, e, ey, l⟩ | ⟨kvs, k, b, e, ey, eb, l⟩
  · subst ey
    obtain ⟨z, hd, vs, rel, dd⟩ := dk_rd I.hok e
    refine wpAny_notIn_of (kV_is ry) hd dd.mapOf ?_
    rw [← (rel.val k).isSome_eq, ← l]
    exact h _ (I.tok _)
  · subst ey
    cases (show u = Value.ref b from ry)
    obtain ⟨z, hd, xs, rel, dd⟩ := dt_rd I.hok e
    refine wpAny_notIn_heap (tupleKind_room_in1 hu) (key_of I.hok eb) hd dd ?_
    have q := (rel.val k).isSome_eq
    rw [Option.isSome_map] at q
    rw [← q, ← l]
    exact h _ (I.tok _)
/-- a dict's object is replaced -/
theorem d_write {h' : Heap} {t' : Nat} {ob : HO} (I : Inv X pins σ H s) (mu : Mut (H a)) (hs : Heap.SameBut a s.heap h') (he : ∃ q, h'.get? a = some q) (new : ObjOk X.prog X.w (upd H a ob) h' a ob) :
    Inv X pins σ (upd H a ob) { s with heap := h', toks := t' } :=
  I.write (x := a) (e := a) mu (.inl rfl) (fun b q hb z => (hs.2 b hb).trans z) he new
theorem dk_new {P : Program} {w : World} {H' : Hp} {h' : Heap} {kvs : List (Key × V)} {vs : List (Key × Value)} (z : kvs.length ≤ sizeLine) (hd : (a == sysModules) = false) (rel : KV kvs vs) (dd : h'.DictOf (mixKind P w) a vs) :
    ObjOk P w H' h' a (.dK kvs) := ⟨z, hd, vs, rel, dd⟩
/-- d[y] = v -/
theorem d_setItem {H' : Hp} {Q : Unit → Shared → Prop} (hu : A.units + 1 < cLine) (I : Inv X pins σ H s) (g : DPut H a y v H') (ry : RelV y u) (rv : RelV v r) (h : ∀ s', Inv X pins σ H' s' → Q () s') :
    wpAny (model X.prog X.w) A (setItem (.ref a) u r) Q E s := by
  rcases g with ⟨kvs, k, e, ey, l, eH⟩ | ⟨kvs, k, b, e, ey, eb, l, eH⟩
  · subst ey eH
    obtain ⟨z, hd, vs, rel, dd⟩ := dk_of I.hok e
    have hz : vs.length ≤ sizeLine := by rw [← rel.length]; exact z
    have hl : (putK kvs k v).length ≤ sizeLine := by have := length_putK kvs k v; omega
    refine wpAny_setItem_pairs (hsz := hz) (kV_is ry) dd fun h' dd' hs => h _ ?_
    have he : ∃ q, h'.get? a = some q := let ⟨q, _, _, hq, _⟩ := dd'; ⟨q, hq⟩
    exact d_write I (by rw [e]; exact True.intro) hs he (dk_new hl hd (rel.put k rv) dd')
  · subst ey eH
    cases (show u = Value.ref b from ry)
    obtain ⟨z, hd, xs, rel, dd⟩ := dt_of I.hok e
    have hz : xs.length ≤ sizeLine := by rw [← Paired.length rel]; exact z
    have hl : (putK kvs k v).length ≤ sizeLine := by have := length_putK kvs k v; omega
    refine wpAny_setItem_heap (hsz := hz) (tupleKind_room_in1 hu) (key_of I.hok eb) dd fun h' dd' hs => h _ ?_
    obtain ⟨q, es, ep, hq, h2, h3, h4, _, h5⟩ := dd'
    refine d_write I (by rw [e]; exact True.intro) hs ⟨q, hq⟩ ⟨hl, hd, _, (rel.put k eb rv).keeps fun c ys ec => ?_, q, es, ep, hq, h2, h3, h4, h5⟩
    rw [upd_ne (ne_of ec e (fun z => nomatch z))]
    exact ec
end




/-! ### readings and rules -/
/-- the element of a subscription, not a slice -/
def NoSl (i : Expr) : Prop := ∀ ov iv, subscripted i false ov iv = operate [ov, iv] (getItem ov iv)
theorem subD_of {prog : Program} {w : World} {A : Around} {E : Value → Shared → Prop} {s : Shared} {env : Env} {value slice : Expr} {pos : Pos} {T id : String} {Q : Value → Shared → Prop}
    (hl : typeLookup (.type T) "__getitem__" = pure (some (.builtin id))) (hs : NoSl slice)
    (h : wpAny (model prog w) A (eval value env) (fun o s₁ => wpAny (model prog w) A (eval slice env) (fun i s₂ => s₂.TypeIs o T ∧ wpAny (model prog w) A (getItem o i) Q E s₂) E s₁) E s) :
    wpAny (model prog w) A (eval (.Subscript value slice pos) env) Q E s := by
  refine Subscript_ (wpAny_mono h (fun o s₁ h₁ => wpAny_mono h₁ (fun i s₂ h₂ => ?_) fun _ _ x => x) fun _ _ x => x)
  obtain ⟨hT, h₂⟩ := h₂
  unfold subscriptTail
  refine wpAny_bind ?_
  rw [getitemInPython_of_ne hT.not_modules]
  refine wpAny_bind (wpAny_specialOf hT hl ?_)
  have fin : wpAny (model prog w) A (subscripted slice false o i) (fun r s₃ => wpAny (model prog w) A (letTemporaryGo value o r >>= fun _ => pure r) Q E s₃) E s₂ := by
    rw [hs o i]
    exact wpAny_operating (wpAny_mono h₂ (fun r s₃ h₃ => wpAny_bind (wpAny_letTemporaryGo (wpAny_pure h₃))) fun _ _ x => x)
  first
    | exact wpAny_pure (wpAny_bind fin)
    | exact wpAny_bind (wpAny_pure (wpAny_bind fin))
    | exact wpAny_bind fin

theorem dict_typeIs {X : Cx} {pins : List (Addr × Obj)} {σ : St} {H : Hp} {s : Shared} {a : Addr} {y : V} {o : Option V} (I : Inv X pins σ H s) (g : DGet H a y o) : s.TypeIs (.ref a) "dict" := by
  rcases g with ⟨kvs, k, e, _, _⟩ | ⟨kvs, k, b, e, _, _, _⟩
  · obtain ⟨_, _, vs, _, dd⟩ := dk_rd I.hok e
    exact dd.typeIs
  · obtain ⟨_, _, xs, _, dd⟩ := dt_rd I.hok e
    exact dd.typeIs
/-- d[y] -/
def tDGet (td ty : TE) : TE := fun σ H Q => td σ H fun x H1 => ty σ H1 fun y H2 => ∃ a v, x = .ref a ∧ DGet H2 a y (some v) ∧ Q v H2
def tDNotIn (ty td : TE) : TE := fun σ H Q => ty σ H fun y H1 => td σ H1 fun x H2 => ∃ a o, x = .ref a ∧ DGet H2 a y o ∧ Q (.bl (!o.isSome)) H2
/-- d[y] = v -/
def sDPut (td ty tv : TE) : TS := fun D σ H => tv σ H fun v H1 => td σ H1 fun x H2 => ty σ H2 fun y H3 => ∃ a H4, x = .ref a ∧ DPut H3 a y v H4 ∧ D.nx σ H4
section
variable {X : Cx} {o i e value : Expr} {pos pos' tpos : Pos} {td ty tv : TE}
theorem pe_dget (hu : X.A.units + 1 < cLine) (ho : PE X o td) (hi : PE X i ty) (hs : NoSl i) : PE X (.Subscript o i pos) (tDGet td ty) := by
  intro pins s σ H Q I h
  refine subD_of PySem.F.slot_dict_getitem.lookup hs (thn (ho pins s σ H _ I h) fun u s1 ⟨x, H1, I1, rx, q1⟩ => thn (hi pins s1 σ H1 _ I1 q1) fun iv s2 ⟨y, H2, I2, ry, a, v, ex, g, q2⟩ => ?_)
  subst ex
  obtain rfl : u = Value.ref a := rx
  exact ⟨dict_typeIs I2 g, d_getItem hu I2 g ry fun w' s3 I3 rw' => ⟨v, H2, I3, rw', q2⟩⟩
theorem pc_dnotin (hu : X.A.units + 1 < cLine) (hi : PE X i ty) (ho : PE X o td) : PC X .NotIn i o (tDNotIn ty td) := by
  intro pins s σ H Q I h
  refine thn (hi pins s σ H _ I h) fun iv s1 ⟨y, H1, I1, ry, q1⟩ => thn (ho pins s1 σ H1 _ I1 q1) fun u s2 ⟨x, H2, I2, rx, a, ov, ex, g, q2⟩ => ?_
  subst ex
  obtain rfl : u = Value.ref a := rx
  exact d_notIn hu I2 g ry fun s3 I3 => ⟨.bl (!ov.isSome), H2, I3, rfl, q2⟩
theorem ps_dput (hu : X.A.units + 1 < cLine) (ho : PE X o td) (hi : PE X i ty) (hv : PE X value tv) (hs : swapsWith value (some (.Subscript o i pos')) pos.line X.env = pure false) :
    PS X (.Assign [.Subscript o i pos'] value pos) (sDPut td ty tv) := by
  intro pins s σ H D I h
  refine wpAny_Assign_Subscript (thn (hv pins s σ H _ I h) fun r s1 ⟨v, H1, I1, rv, q1⟩ => thn (ho pins s1 σ H1 _ I1 q1) fun u s2 ⟨x, H2, I2, rx, q2⟩ => thn (hi pins s2 σ H2 _ I2 q2) fun iv s3 ⟨y, H3, I3, ry, a, H4, ex, g, q3⟩ => ?_) hs
  subst ex
  obtain rfl : u = Value.ref a := rx
  exact d_setItem hu I3 g ry rv fun s4 I4 => ⟨σ, H4, I4, q3⟩
end


/-! ### displays -/
theorem dk_empty {P : Program} {w : World} {H : Hp} (h : Heap) (hb : sysModules < h.objs.size) : ObjOk P w H (h.push { cls := .type "dict", data := .dict #[] }) h.objs.size (.dK []) :=
  ⟨Nat.zero_le _, beq_eq_false_iff_ne.mpr (Ne.symm (Nat.ne_of_lt hb)), [], .nil, Heap.DictOf.new h⟩
theorem dt_empty {P : Program} {w : World} {H : Hp} (h : Heap) (hb : sysModules < h.objs.size) : ObjOk P w H (h.push { cls := .type "dict", data := .dict #[] }) h.objs.size (.dT []) :=
  ⟨Nat.zero_le _, beq_eq_false_iff_ne.mpr (Ne.symm (Nat.ne_of_lt hb)), [], .nil, _, #[], 0, Heap.get?_push_size _ rfl, ⟨rfl, rfl, rfl⟩, rfl, rfl, List.nodup_nil⟩
/-- {}, to be a dict of the kind that is wanted -/
def tDNewK : TE := fun _ H Q => ∀ p, H p = none → Q (.ref p) (upd H p (.dK []))
section
variable {X : Cx} {pos : Pos}
theorem pe_dnewK : PE X (.Dict [] [] pos) tDNewK := fun pins s σ H Q I h =>
  wpAny_Dict_empty ⟨.ref s.heap.objs.size, _, I.laid (a := s.heap.objs.size) (o := .dK []) (t' := s.toks) (fun _ _ q => Heap.get?_push_of_some _ q) (Nat.le_refl _) (dk_empty s.heap I.big), rfl, h _ (I.hok.fresh (Nat.le_refl _))⟩
end

/-- the pairs of a display, from the left -/
def tPairs : List (TE × TE) → St → Hp → (List (V × V) → Hp → Prop) → Prop
  | [], _, H, Q => Q [] H
  | (tk, tv) :: r, σ, H, Q => tk σ H fun x H1 => tv σ H1 fun y H2 => tPairs r σ H2 fun ps H3 => Q ((x, y) :: ps) H3
abbrev VV : List (V × V) → List (Value × Value) → Prop := Paired fun p q => RelV p.1 q.1 ∧ RelV p.2 q.2
def PPs (X : Cx) (pos : Pos) (keys : List (Option Expr)) (values : List Expr) (trs : List (TE × TE)) : Prop :=
  ∀ (pins : List (Addr × Obj)) (s : Shared) (σ : St) (H : Hp) (Q : List (V × V) → Hp → Prop), Inv X pins σ H s → tPairs trs σ H Q →
    wpAny (model X.prog X.w) X.A (evalPairs (pairTrees keys values X.env pos)) (fun vs s' => ∃ ps H', Inv X pins σ H' s' ∧ VV ps vs ∧ Q ps H') X.xe s
theorem pps_nil {X : Cx} {pos : Pos} : PPs X pos [] [] [] := fun pins s σ H Q I h => pairTrees_nil_walk ⟨[], H, I, .nil, h⟩
theorem pps_cons {X : Cx} {pos : Pos} {k v : Expr} {ks : List (Option Expr)} {vs : List Expr} {tk tv : TE} {trs : List (TE × TE)} (hk : PE X k tk) (hv : PE X v tv) (hr : PPs X pos ks vs trs) :
    PPs X pos (some k :: ks) (v :: vs) ((tk, tv) :: trs) := fun pins s σ H Q I h =>
  pairTrees_cons_walk (thn (hk pins s σ H _ I h) fun u s1 ⟨x, H1, I1, rx, q1⟩ => thn (hv pins s1 σ H1 _ I1 q1) fun w2 s2 ⟨y, H2, I2, ry, q2⟩ =>
    thn (hr pins s2 σ H2 _ I2 q2) fun ws s3 ⟨ps, H3, I3, rel, q3⟩ => ⟨(x, y) :: ps, H3, I3, .cons ⟨rx, ry⟩ rel, q3⟩)

def mergeK (kvs more : List (Key × V)) : List (Key × V) := more.foldl (fun acc kv => putK acc kv.1 kv.2) kvs
theorem KV.merge : ∀ {more : List (Key × V)} {rs : List (Key × Value)} {kvs : List (Key × V)} {vs : List (Key × Value)}, KV more rs → KV kvs vs → KV (mergeK kvs more) (merged vs rs) := by
  intro more rs kvs vs r
  unfold KV at r
  induction r generalizing kvs vs with
  | nil => intro q; exact q
  | @cons p q ps qs h t ih =>
    intro r0
    have e : KV (putK kvs p.1 p.2) (stored vs q.1 q.2) := by
      have := r0.put p.1 h.2
      rw [← h.1]; exact this
    exact ih e
theorem length_mergeK : ∀ (more kvs : List (Key × V)), (mergeK kvs more).length ≤ kvs.length + more.length
  | [], kvs => by show kvs.length ≤ kvs.length + 0; omega
  | p :: r, kvs => by
    have h1 := length_mergeK r (putK kvs p.1 p.2)
    have h2 := length_putK kvs p.1 p.2
    show (mergeK (putK kvs p.1 p.2) r).length ≤ _
    rw [List.length_cons]; omega
theorem carries_of {P : Program} {w : World} : ∀ {kvs : List (Key × V)} {ws : List (Value × Value)}, VV (kvs.map fun kv => (kV kv.1, kv.2)) ws → ∃ rs, Carries (mixKind P w) ws rs ∧ KV kvs rs
  | [], _, r => by rw [List.map_nil] at r; cases r; exact ⟨[], True.intro, .nil⟩
  | p :: kvs, _, r => by
    rw [List.map_cons] at r
    cases r with
    | @cons a b as bs h t =>
      obtain ⟨rs, c, q⟩ := carries_of (P := P) (w := w) t
      obtain ⟨b1, b2⟩ := b
      exact ⟨(p.1, b2) :: rs, ⟨kV_is h.1, rfl, c⟩, .cons ⟨rfl, h.2⟩ q⟩
/-- {k: v, ..} with keys ints and texts; the new dict stands empty while the pairs are made -/
def tDisp (trs : List (TE × TE)) : TE := fun σ H Q => ∀ p, H p = none → tPairs trs σ (upd H p (.dK [])) fun ps H2 => H2 p = some (.dK []) ∧ ∃ kvs : List (Key × V), ps = kvs.map (fun kv => (kV kv.1, kv.2)) ∧ kvs.length ≤ 15 ∧ Q (.ref p) (upd H2 p (.dK (mergeK [] kvs)))
theorem pe_disp {X : Cx} {pos : Pos} {keys : List (Option Expr)} {values : List Expr} {trs : List (TE × TE)} (h : PPs X pos keys values trs) (hall : keys.all (·.isSome) = true) (hl : keys.length = values.length) (h0 : keys ≠ [])
    (h15 : keys.length ≤ 15) : PE X (.Dict keys values pos) (tDisp trs) := by
  intro pins s σ H Q I q
  have hn := I.hok.fresh (Nat.le_refl s.heap.objs.size)
  have I1 := I.laid (a := s.heap.objs.size) (o := .dK []) (h' := s.heap.push { cls := .type "dict", data := .dict #[] }) (t' := s.toks) (fun _ _ q => Heap.get?_push_of_some _ q) (Nat.le_refl _) (dk_empty s.heap I.big)
  refine wpAny_Dict_walk (knd := mixKind X.prog X.w) hall hl h0 h15 (thn (h pins _ σ _ _ I1 (q _ hn)) fun ws s2 ⟨ps, H2, I2, rel, e, kvs, ep, lk, q2⟩ => ?_)
  subst ep
  obtain ⟨rs, c, rk⟩ := carries_of (P := X.prog) (w := X.w) rel
  obtain ⟨z, hd, vs0, r0, dd⟩ := dk_of I2.hok e
  cases r0
  refine ⟨rs, c, dd, fun h' dd' hs => ⟨.ref s.heap.objs.size, _, ?_, rfl, q2⟩⟩
  have hz : (mergeK [] kvs).length ≤ sizeLine := by
    have h1 := length_mergeK kvs []
    rw [List.length_nil] at h1
    rw [sizeLine_eq]; omega
  have he : ∃ q, h'.get? s.heap.objs.size = some q := let ⟨q, _, _, hq, _⟩ := dd'; ⟨q, hq⟩
  exact d_write I2 (by rw [e]; exact True.intro) hs he (dk_new hz hd (rk.merge .nil) dd')


/-! ### methods -/
structure M2 (X : Cx) (o : Expr) (m : Str) (apos : Pos) (e f : Expr) (cpos : Pos) : Prop where
  base : attributeBase o m X.env (eval o X.env) = eval o X.env
  few : ((backTo cpos (starEach [e, f] X.env)).all (fun x => !x.1) && (backToKw cpos (keywordEach [] X.env)).all (fun x => x.1.isSome)
    && decide (([e, f] : List Expr).length + ([] : List Keyword).length + (if ([] : List Keyword).isEmpty then 0 else 1) < 30)) = true
  line : (apos.endLine == cpos.line) = true
  trees : backTo cpos (starEach [e, f] X.env) = [(false, eval e X.env), (false, eval f X.env)]





/-! ### dict(d): a copy -/




end L2


namespace Att
open PySem PySem.W PySem.Calls PyProof.Rows

/-! ### the script -/
theorem ints_of_wellAll {P : Params} {h : Heap} : ∀ (ns : List Int) (vs : List Value), WellAll P h vs (ns.map WData.int) → IntsAre vs ns := by
  intro ns
  induction ns with
  | nil =>
    intro vs w
    rw [List.map_nil] at w
    cases w
    exact .nil
  | cons n ns ih =>
    intro vs w
    rw [List.map_cons] at w
    cases w with
    | cons a b =>
      cases a
      exact .cons _ _ (ih _ b)

theorem script_of {l : OpenLaw} {n : Nat} (hn : l.most = some n) {P : Params} {h : Heap} {args : List WData} {vals : List Value}
    (hpre : l.row.toRowW.claim.pre args = true) (hwl : WellAll P h vals args) :
    ∃ a vs ns, vals = [Value.ref a] ∧ args = [WData.list (ns.map WData.int)] ∧ h.get? a = some { cls := .type "list", data := .seq vs.toArray } ∧ IntsAre vs ns ∧ ns.length ≤ n := by
  have hsh : WShape.hasAll [] args [.list .int] = true := (pre_splitW hpre).1
  have hc : l.pre.holds [] { args := args } = true := (pre_splitW hpre).2
  obtain ⟨d, r, rfl, h1, h2⟩ := hasAllW_cons hsh
  obtain rfl := hasAllW_nil h2
  obtain ⟨xs, rfl, h3⟩ := hasW_list h1
  obtain ⟨ns, rfl⟩ := items_int h3
  have hlen : ns.length ≤ n := by
    unfold OpenLaw.pre at hc
    have h4 : (WTm.not (.lt (.lit (.int (n : Int))) (.len (.arg 0)))).holds [] { args := [.list (ns.map .int)] } = true := by
      have h4 := (holds_andW hc).1
      rw [hn] at h4
      exact h4
    have h5 := condW_of h4 (w_not (w_lt w_lit (w_len_list (w_arg rfl))))
    rw [List.length_map] at h5
    refine Nat.le_of_not_lt fun q => ?_
    have q' : (n : Int) < ((ns.length : Nat) : Int) := by omega
    first
      | (rw [decide_eq_true q'] at h5; exact absurd h5 (by decide))
      | (simp at h5; omega)
  cases hwl with
  | cons w1 w2 =>
    cases w2
    cases w1 with
    | list ho hall => exact ⟨_, _, ns, rfl, rfl, ho, ints_of_wellAll ns _ hall, hlen⟩

theorem post_true (l : OpenLaw) (args : List WData) : l.row.toRowW.claim.post args (.bool true) args = true :=
  postW_of (r := l.row.toRowW) (X := (true == true))
    (show WShape.has [] (.bool true) .bool = true by first | rfl | decide | simp [WShape.has, WShape.arms, WShape.armsAll])
    (show (WTm.eq .res (.lit (.bool true))).value [] { args := args, res := some (.bool true), after := args } = some (.bool (true == true)) from w_eq_bool (w_res rfl) w_lit) rfl

/-! ### the attachment: holds_open's last premise (the goal 'hc' behind k_head) from a wpAny of the law's body -/
/-- the same from a codeAny of the CALL (for a layer whose function contracts speak of calls) -/
theorem attach_call {l : OpenLaw} {n : Nat} {q : Program} {loose : List Str} {XP : (Str → Option Value) → Heap → Prop} {YP : World → Heap → Prop} {d : DefRec}
    (hn : l.most = some n) (hdf : d.params.defaults = [])
    (call : ∀ (w : World) (s₀ s₁ : Shared) (mg mb : Str → Option Value) (fa : Addr) (o : Obj) (pm cd doc : Value) (a : Addr) (vs : List Value) (ns : List Int),
      Ground q loose [] XP w s₀ mg mb s₁.heap → YP w s₁.heap →
      s₁.heap.get? fa = some o → o.data = .func (docDef d.name d.params d.body d.scope pm cd doc) → s₁.heap.CodeRec cd d.name → mg d.name = some (.ref fa) →
      s₁.heap.get? a = some { cls := .type "list", data := .seq vs.toArray } → IntsAre vs ns → ns.length ≤ n → s₁.gens = #[] →
      codeAny (model l.prog w) callerA (.call (.ref fa) ⟨[.ref a], []⟩) (fun r s' => r = .ok (.ret (.bool true)) ∧ OldK s₁.heap s'.heap ∧ s'.os = s₁.os ∧ AllBare s'.gens) s₁) :
    WalkO q loose XP YP l.row.toRowW d [] (fun f vs => PySem.call f vs) := by
  intro w s₀ s₁ mg mb G Y fa o pm cd doc dV kV ho hd hcd hD hmg hg args vals as hpre hlay hrd hwl hlo
  obtain rfl : dV = .none := Dflts.none hD hdf
  obtain rfl : kV = .none := Dflts.noKw hD
  obtain ⟨a, vs, ns, rfl, rfl, hobj, hints, hlen⟩ := script_of hn hpre hwl
  refine enter_call (codeAny_mono (call w s₀ s₁ mg mb fa o pm cd doc a vs ns G Y ho (fd_plain hd) hcd hmg hobj hints hlen hg) fun r s' hq => ?_)
  obtain ⟨rfl, h2, h3, h4⟩ := hq
  exact ⟨.inl ⟨.bool true, .bool true, [], rfl, fun _ => rfl, .bool true, post_true l _, fun _ => ⟨List.Pairwise.nil, fun _ hm => (nomatch hm)⟩⟩, h2, h3, h4⟩

/-! ### rules over ANY heap (no ledger) from facts about the written part K: the library's own take a ledger (News) for what they write -/
section
variable {prog : Program} {w : World} {A : Around} {E : Value → Shared → Prop} {s : Shared} {K : Frag}

/-! the whole heap as the ledger: makes every rule that writes through a ledger a rule over any heap -/
end
end Att

namespace L2
open PySem PySem.Spec PyProof.Rows

theorem vals_ints : ∀ {vs : List Value} {ns : List Int}, IntsAre vs ns → Vals (ns.map V.int) vs
  | _, _, .nil => .nil
  | _, _, .cons n t h => .cons ⟨t, rfl⟩ (vals_ints h)

/-- nothing is tracked but the script, known to the object (or it is an object of the module) -/
def Only (H : Hp) : Prop := ∀ b, H b = none ∨ ∃ o xs, H b = some (.frz o (.lst xs))

/-- THE HEAD: the law's promise, at the heap behind the top. F, the promise of the law's def, may use that base is part of the heap (so K.In base, base.Ns mainGlobals mg stand in Mod) -/
theorem law_call {P : Program} {w : World} {K : PySem.W.Frag} {mg mb : Str → Option Value} {CX : CXT} {k : Nat} {fa a : Addr} {fd : FuncData} {x : Str} {sp : Sp} {s₁ : Shared} {vs : List Value} {ns : List Int}
    (KX : K.In s₁.heap) (hns : s₁.heap.Ns mainGlobals mg) (hb : s₁.heap.Ns builtinsNs mb) (hbb : ∀ x : Str, x ≠ "__name__" → mb x = bootBuiltins x) (hlim : s₁.heap.NoLimit) (hg : s₁.gens = #[])
    (ha : s₁.heap.get? a = some { cls := .type "list", data := .seq vs.toArray }) (hi : IntsAre vs ns) (hl : ns.length ≤ sizeLine) (hr : Room k callerA)
    (F : ∀ base : Heap, K.In base → base.Ns mainGlobals mg → FnOk P w K mg base CX k fa fd [x] sp) (hbind : ∀ (s : Shared) (u : Value), BindsTo s fd ⟨[u], []⟩ [(x, u)])
    (hsp : ∀ H : Hp, Only H → SqL K H a (ns.map V.int) → sp [.ref a] H (fun v _ => v = .bl true) fun _ _ _ => False)
    (hCX : ∀ H e s', CX [] H s₁ (fun _ _ _ => False) e s' → False) :
    codeAny (model P w) callerA (.call (.ref fa) ⟨[.ref a], []⟩) (fun r s' => r = .ok (.ret (.bool true)) ∧ OldK s₁.heap s'.heap ∧ s'.os = s₁.os ∧ AllBare s'.gens) s₁ := by
  have rv := vals_ints hi
  have lenV := hi.length
  -- from an abstract heap in which nothing but the script may be tracked
  have core : ∀ H : Hp, Only H → SqL K H a (ns.map V.int) → HOk P w H s₁.heap → (∀ b, H b ≠ none → b = a) → (H a ≠ none → K.lookup a = none) →
      codeAny (model P w) callerA (.call (.ref fa) ⟨[.ref a], []⟩) (fun r s' => r = .ok (.ret (.bool true)) ∧ OldK s₁.heap s'.heap ∧ s'.os = s₁.os ∧ AllBare s'.gens) s₁ := by
    intro H hO hS hok hA hK
    have base_of : ∀ {b : Addr} {o : Obj}, s₁.heap.get? b = some o → H b = none → (hidT s₁.heap H).get? b = some o := fun e n => hidT_get e n
    have noA : ∀ {b : Addr} {o : Obj} {es : Array DictEntry} {ep : Nat}, s₁.heap.get? b = some o → o.data = .dict es ep → H b = none := fun {b o es ep} e d => by
      cases q : H b with
      | none => rfl
      | some u =>
        have e' : b = a := hA b (by rw [q]; simp)
        subst e'
        rw [ha] at e; cases e
        have d' : Data.seq vs.toArray _ = Data.dict es ep := d
        cases d'
    have nsK : ∀ {b : Addr} {m : Str → Option Value}, s₁.heap.Ns b m → (hidT s₁.heap H).Ns b m := fun {b m} ⟨o, es, ep, e, d, r⟩ => ⟨o, es, ep, base_of e (noA e d), d, r⟩
    have hKb : K.In (hidT s₁.heap H) := fun b o e => base_of (KX b o e) (by
      cases q : H b with
      | none => rfl
      | some u =>
        have e' : b = a := hA b (by rw [q]; simp)
        subst e'
        rw [hK (by rw [q]; simp)] at e; cases e)
    have hM : Mod K mg (hidT s₁.heap H) := ⟨hKb, nsK hns, ⟨mb, nsK hb, hbb⟩, let ⟨mc, h1, h2⟩ := hlim; ⟨mc, nsK h1, h2⟩⟩
    have e0 : Env0 P w K mg (hidT s₁.heap H) callerA [] s₁ H := ⟨rfl, hM, fun b o e => of_hidT e, Nat.le_of_eq (hidT_size _ _), trivial, fun b hb => absurd (show b ∈ ([] : List Addr) from hb) (by simp), hok, .of_eq hg⟩
    refine codeAny_mono ((F _ hKb (nsK hns)).run callerA [] s₁ H ⟨[.ref a], []⟩ [.ref a] [.ref a] _ _ hr e0 (hbind s₁ (.ref a)) (.cons rfl .nil) (hsp H hO hS)) fun r s' h => ?_
    cases r with
    | error e => exact (hCX H e s' h).elim
    | ok fl =>
      cases fl with
      | next => exact False.elim h
      | brk => exact False.elim h
      | cont => exact False.elim h
      | ret u =>
        obtain ⟨v, H', os, bare, un, hok', r', q⟩ := h
        have q' : v = .bl true := q
        subst q'
        obtain rfl : u = Value.bool true := r'
        refine ⟨rfl, OldK.of_keep fun b o e => ?_, os, bare⟩
        cases q : H b with
        | none => exact un.keep b o e q (by intro z; exact absurd (show b ∈ ([] : List Addr) from z) (by simp)) (by simp)
        | some u =>
          rcases hO b with z | ⟨ob, xs, z⟩
          · rw [q] at z; cases z
          · have z2 := un.frzs b ob _ z
            obtain ⟨e1, _⟩ := hok b _ z
            obtain ⟨e2, _⟩ := hok' b _ z2
            rw [e] at e1; cases e1
            exact e2
  cases hk : K.lookup a with
  | some o =>
    -- the script is one of the module's own objects
    have e := KX a o hk
    rw [ha] at e
    cases e
    refine core (fun _ => none) (fun _ => .inl rfl) (.inr ⟨_, vs.toArray, _, hk, rfl, rfl, rfl, by rw [List.size_toArray, lenV]; exact hl, by simpa using rv⟩) (fun b u z => by have z' : (none : Option HO) = some u := z; cases z') (fun b z => absurd rfl z) fun z => absurd rfl z
  | none =>
    refine core (fun b => if b = a then some (.frz { cls := .type "list", data := .seq vs.toArray } (.lst (ns.map V.int))) else none) (fun b => ?_) (.inl (.inr ⟨{ cls := .type "list", data := .seq vs.toArray }, if_pos rfl⟩)) (fun b u z => ?_) (fun b z => ?_) fun _ => hk
    · by_cases hb : b = a
      · exact .inr ⟨_, _, if_pos hb⟩
      · exact .inl (if_neg hb)
    · by_cases hb : b = a
      · have z' := (if_pos hb).symm.trans z
        cases z'
        subst hb
        exact ⟨ha, by rw [List.length_map]; exact hl, vs, _, rv, ha⟩
      · have z' := (if_neg hb).symm.trans z
        cases z'
    · by_cases hb : b = a
      · exact hb
      · exact absurd (if_neg hb) z
end L2

namespace L2
open PySem PySem.Spec PyProof.Rows

abbrev KOf {K : PySem.W.Frag} {h : Heap} (_ : K.In h) : PySem.W.Frag := K

/-- the goal that k_head leaves (case hc), from the law's promise. F gives the function object fd (K's own) once, then the promise over every base -/
theorem walk_of {l : PySem.W.OpenLaw} {n k : Nat} {q : Program} {loose : List Str} {XP : (Str → Option Value) → Heap → Prop} {YP : World → Heap → Prop} {d : DefRec} {K : Params → PySem.W.Frag} {CX : World → CXT} {sp : World → Sp} {x : Str}
    (hn : l.most = some n) (hn2 : n ≤ sizeLine) (hdf : d.params.defaults = []) (hr : Room k callerA)
    (hY : ∀ (w : World) (h : Heap), YP w h → (K w.params).In h)
    (F : ∀ (w : World) (mg : Str → Option Value) (fa : Addr) (h : Heap), (K w.params).In h → h.Ns mainGlobals mg → mg d.name = some (.ref fa) →
      ∃ fd : FuncData, (∀ (s : Shared) (u : Value), BindsTo s fd ⟨[u], []⟩ [(x, u)]) ∧
        ∀ base : Heap, (K w.params).In base → base.Ns mainGlobals mg → FnOk l.prog w (K w.params) mg base (CX w) k fa fd [x] (sp w))
    (hsp : ∀ (w : World) (H : Hp) (a : Addr) (ns : List Int), ns.length ≤ n → Only H → SqL (K w.params) H a (ns.map V.int) → sp w [.ref a] H (fun v _ => v = .bl true) fun _ _ _ => False)
    (hCX : ∀ (w : World) (H : Hp) (s : Shared) (e : Value) (s' : Shared), CX w [] H s (fun _ _ _ => False) e s' → False) :
    PySem.W.WalkO q loose XP YP l.row.toRowW d [] (fun f vs => PySem.call f vs) := by
  refine Att.attach_call hn hdf fun w s₀ s₁ mg mb fa o pm cd doc a vs ns G Y ho hd hcd hmg hobj hints hlen hg => ?_
  have KX := hY w _ Y
  obtain ⟨fd, hb, hF⟩ := F w mg fa _ KX G.T.g hmg
  exact law_call KX G.T.g G.T.b G.T.builtins G.T.nolimit hg hobj hints (Nat.le_trans hlen hn2) hr hF hb (fun H hO hS => hsp w H a ns hlen hO hS) fun H e s' => hCX w H s₁ e s'
/-- the same where the promise hangs on the written part alone: (sp := My.sp_law), no hole under a binder -/
theorem walk_ofK {l : PySem.W.OpenLaw} {n k : Nat} {q : Program} {loose : List Str} {XP : (Str → Option Value) → Heap → Prop} {YP : World → Heap → Prop} {d : DefRec} {K : Params → PySem.W.Frag} {CX : CXT} {sp : PySem.W.Frag → Sp} {x : Str}
    (hn : l.most = some n) (hn2 : n ≤ sizeLine) (hdf : d.params.defaults = []) (hr : Room k callerA)
    (hY : ∀ (w : World) (h : Heap), YP w h → (K w.params).In h)
    (F : ∀ (w : World) (mg : Str → Option Value) (fa : Addr) (h : Heap), (K w.params).In h → h.Ns mainGlobals mg → mg d.name = some (.ref fa) →
      ∃ fd : FuncData, (∀ (s : Shared) (u : Value), BindsTo s fd ⟨[u], []⟩ [(x, u)]) ∧
        ∀ base : Heap, (K w.params).In base → base.Ns mainGlobals mg → FnOk l.prog w (K w.params) mg base CX k fa fd [x] (sp (K w.params)))
    (hsp : ∀ (K : PySem.W.Frag) (H : Hp) (a : Addr) (ns : List Int), ns.length ≤ n → Only H → SqL K H a (ns.map V.int) → sp K [.ref a] H (fun v _ => v = .bl true) fun _ _ _ => False)
    (hCX : ∀ (H : Hp) (s : Shared) (e : Value) (s' : Shared), CX [] H s (fun _ _ _ => False) e s' → False) :
    PySem.W.WalkO q loose XP YP l.row.toRowW d [] (fun f vs => PySem.call f vs) :=
  walk_of (K := K) (CX := fun _ => CX) (sp := fun w => sp (K w.params)) hn hn2 hdf hr hY F (fun w H a ns h1 h2 h3 => hsp (K w.params) H a ns h1 h2 h3) fun _ H s e s' => hCX H s e s'
end L2



/-! SHORT WORDS over the layer: a def of the text, its body, what a loop and a test want. -/
namespace L2
open PySem PySem.Spec PyProof.Rows

/-! ### the text by places -/
/-- the j-th statement of a class's body -/
def inClass (s : Stmt) (j : Nat) : Stmt := match s with
  | .ClassDef _ _ _ body _ _ _ _ _ _ _ => body.getD j (.Pass ⟨0, 0, 0, 0⟩)
  | _ => .Pass ⟨0, 0, 0, 0⟩
def defArgs (s : Stmt) : Arguments := match s with
  | .FunctionDef _ a _ _ _ _ _ _ _ _ => a
  | _ => { posonlyargs := [], args := [], vararg := none, kwonlyargs := [], kw_defaults := [], kwarg := none, defaults := [] }
def defBody (s : Stmt) : List Stmt := match s with
  | .FunctionDef _ _ b _ _ _ _ _ _ _ => b
  | _ => []
def defScope (s : Stmt) : Scope := match s with
  | .FunctionDef _ _ _ _ _ _ sc _ _ _ => sc
  | _ => { kind := .function, names := [], isGenerator := false, isCoroutine := false }

/-! ### no exception leaves a def -/
abbrev CX0 : CXT := fun _ _ _ _ _ _ => False
abbrev E0 : XK := fun _ _ _ => False
theorem pass0 {X : Cx} : Passes CX0 X E0 := fun _ _ _ _ _ _ _ h => h.elim

/-! ### a def (or method) of the text as it stands behind the top -/
structure Fun (K : PySem.W.Frag) (x qual : Str) (st : Stmt) (f : Addr) (fd : FuncData) : Prop where
  ex : ∃ (oc : Value) (od : Option Addr) (kV doc pm : Value) (an : Option Addr) (cdv ct : Value) (osl : Array (Option Value)),
    fd = PySem.W.fnOf x qual (defArgs st) (defBody st) (defScope st) .none kV doc pm an cdv ct ∧ K.lookup f = some ⟨oc, od, .func fd, osl⟩ ∧ PySem.W.codeIn K cdv qual = true
  kp : PySem.W.keepIn K (.ref f) = true
section
variable {P : Program} {w : World} {K : PySem.W.Frag} {mg : Str → Option Value} {base : Heap}
/-- THE RULE for a def: its body as a term of rules, and the reading of that term -/
theorem Fun.ok {x qual : Str} {st : Stmt} {f : Addr} {fd : FuncData} {N ps : List Str} {k : Nat} {sp : Sp} (F : Fun K x qual st f fd) (S : FnScope N ps (defScope st)) (len : ∀ vs H Q E, sp vs H Q E → vs.length = ps.length)
    (hbody : ∀ (cdv : Value) (A : Around) (outer : List Env) (s : Shared) (H : Hp) (vs : List V) (Q : VK) (E : XK), Room k (A.deeper (envOfC qual (defScope st) s.heap.objs.size f cdv)) → sp vs H Q E →
      ∃ t, PSs (cxOf CX0 P w K mg base N qual (defScope st) f cdv A outer s H E).nox (defBody st) t ∧ t { nx := fun _ H' => Q .non H', rt := Q } (start N vs) H) : FnOk P w K mg base CX0 (k + 1) f fd ps sp := by
  obtain ⟨oc, od, kV, doc, pm, an, cdv, ct, osl, rfl, lk, hcd⟩ := F.ex
  refine fn_of lk hcd S len fun A outer s H vs Q E hr hsp => ?_
  obtain ⟨t, h, q⟩ := hbody cdv A outer s H vs Q E hr hsp
  exact ⟨t, h.nox, q⟩
/-- how its arguments bind (no defaults): h is «fun _ _ _ _ _ _ us hl => match us, hl with | [_, _], _ => rfl», one _ a parameter -/
theorem Fun.binds {x qual : Str} {st : Stmt} {f : Addr} {fd : FuncData} {ps : List Str} (F : Fun K x qual st f fd)
    (h : ∀ (kV doc pm : Value) (an : Option Addr) (cdv ct : Value) (us : List Value), us.length = ps.length → bindArgs (PySem.W.fnOf x qual (defArgs st) (defBody st) (defScope st) .none kV doc pm an cdv ct) ⟨us, []⟩ = pure (ps.zip us)) : Binds K fd ps [] := by
  obtain ⟨oc, od, kV, doc, pm, an, cdv, ct, osl, rfl, lk, hcd⟩ := F.ex
  exact .all (h kV doc pm an cdv ct)
theorem fun_mk {x qual : Str} {st : Stmt} {f : Addr} {oc : Value} {od an : Option Addr} {osl : Array (Option Value)} {kV doc pm cdv ct : Value} (l : K.lookup f = some ⟨oc, od, .func (PySem.W.fnOf x qual (defArgs st) (defBody st) (defScope st) .none kV doc pm an cdv ct), osl⟩)
    (c : PySem.W.codeIn K cdv qual = true) (k : PySem.W.keepIn K (.ref f) = true) : Fun K x qual st f (PySem.W.fnOf x qual (defArgs st) (defBody st) (defScope st) .none kV doc pm an cdv ct) := ⟨⟨oc, od, kV, doc, pm, an, cdv, ct, osl, rfl, l, c⟩, k⟩
end
theorem small1000 {n : Nat} (h : n ≤ 1000) : n < sizeLine := Nat.lt_of_le_of_lt h (by decide)

/-! ### expressions in short: the name that stands in the i-th slot -/
section
variable {X : Cx}
theorem pv (i : Nat) {x : Str} {pos : Pos} (hN : X.N[i]? = some x := by rfl) (hv : Vis X.env.scope x := by first | exact Or.inl rfl | exact Or.inr (Or.inl rfl) | exact Or.inr (Or.inr rfl)) (hd : (x == ("__debug__" : Str)) = false := by decide)
    (hcd : (x == ("__classdict__" : Str)) = false := by decide) : PE X (.Name x pos) (tVar i) := pe_var hN hv hd hcd
end

/-! ### tests -/
/-! ### heaps -/
/-- all that was tracked is as it was -/
def Same (H H' : Hp) : Prop := ∀ b o, H b = some o → H' b = some o
theorem Same.refl (H : Hp) : Same H H := fun _ _ h => h
theorem Same.trans {H H1 H2 : Hp} (a : Same H H1) (b : Same H1 H2) : Same H H2 := fun c o h => b c o (a c o h)
theorem Same.free {H H' : Hp} (e : Same H H') {l : Addr} (h : H' l = Option.none) : H l = Option.none := by
  cases q : H l with
  | none => rfl
  | some o =>
    rw [e l o q] at h
    cases h
theorem Same.seq {K : PySem.W.Frag} {H H' : Hp} {a : Addr} {xs : List V} (e : Same H H') (h : SqL K H a xs) : SqL K H' a xs := by
  rcases h with (h | ⟨o, h⟩) | h
  · exact .inl (.inl (e _ _ h))
  · exact .inl (.inr ⟨o, e _ _ h⟩)
  · exact .inr h


/-! ### a dict's pairs: keys that differ -/
section
variable {κ : Type} [DecidableEq κ]
theorem nd_snoc : ∀ {l : List κ} {k : κ}, l.Nodup → ¬ k ∈ l → (l ++ [k]).Nodup
  | [], k, _, _ => by simp
  | a :: r, k, h, hk => by
    obtain ⟨h1, h2⟩ := List.nodup_cons.mp h
    show (a :: (r ++ [k])).Nodup
    refine List.nodup_cons.mpr ⟨fun m => ?_, nd_snoc h2 fun m => hk (List.mem_cons.mpr (Or.inr m))⟩
    rcases List.mem_append.mp m with q | q
    · exact h1 q
    · exact hk (List.mem_cons.mpr (Or.inl (List.mem_singleton.mp q).symm))
end
end L2


/-! ## My extension of the layer -/
namespace PySem
open Sem (wp)
theorem forIn_cl {env : Env} {f : Str × NameKind → List (Str × Addr) → Sem (ForInStep (List (Str × Addr)))}
    (h1 : ∀ x r, x.2 ≠ .free → f x r = pure (.yield r)) (h2 : ∀ x r c, x.2 = .free → env.cells.lookup x.1 = some c → f x r = pure (.yield ((x.1, c) :: r))) :
    ∀ (l : List (Str × NameKind)) (acc : List (Str × Addr)), (∀ x ∈ l, x.2 = .free → ∃ c, env.cells.lookup x.1 = some c) → (∀ x c, acc.lookup x = some c → env.cells.lookup x = some c) →
      ∃ cl, forIn l acc f = pure cl ∧ (∀ x c, cl.lookup x = some c → env.cells.lookup x = some c) ∧ (∀ x ∈ l, x.2 = .free → ∃ c, cl.lookup x.1 = some c) ∧ (∀ x c, acc.lookup x = some c → ∃ c', cl.lookup x = some c')
  | [], acc, _, ha => ⟨acc, rfl, ha, (fun _ h => nomatch h), (fun x c h => ⟨c, h⟩)⟩
  | x :: l, acc, h, ha => by
    by_cases hf : x.2 = .free
    · obtain ⟨c, hc⟩ := h x List.mem_cons_self hf
      have hself : ((x.1, c) :: acc).lookup x.1 = some c := by rw [List.lookup_cons]; simp
      have hne : ∀ y, y ≠ x.1 → ((x.1, c) :: acc).lookup y = acc.lookup y := fun y e => by
        have : (y == x.1) = false := beq_eq_false_iff_ne.mpr e
        rw [List.lookup_cons, this]
      have ha' : ∀ y d, ((x.1, c) :: acc).lookup y = some d → env.cells.lookup y = some d := fun y d hy => by
        by_cases e : y = x.1
        · subst e; rw [hself] at hy; cases hy; exact hc
        · rw [hne y e] at hy; exact ha y d hy
      obtain ⟨cl, e1, e2, e3, e4⟩ := forIn_cl h1 h2 l ((x.1, c) :: acc) (fun y hy => h y (List.mem_cons_of_mem _ hy)) ha'
      refine ⟨cl, ?_, e2, fun y hy hk => ?_, fun y d hy => ?_⟩
      · rw [List.forIn_cons, h2 x acc c hf hc, pure_bind]; exact e1
      · rcases List.mem_cons.mp hy with rfl | hy
        · exact e4 _ c hself
        · exact e3 y hy hk
      · by_cases e : y = x.1
        · subst e; exact e4 _ c hself
        · exact e4 y d (by rw [hne y e]; exact hy)
    · obtain ⟨cl, e1, e2, e3, e4⟩ := forIn_cl h1 h2 l acc (fun y hy => h y (List.mem_cons_of_mem _ hy)) ha
      refine ⟨cl, ?_, e2, fun y hy hk => ?_, e4⟩
      · rw [List.forIn_cons, h1 x acc hf, pure_bind]; exact e1
      · rcases List.mem_cons.mp hy with rfl | hy
        · exact (hf hk).elim
        · exact e3 y hy hk
theorem closure_ok {scope : Scope} {env : Env} (h : ∀ x ∈ scope.names, x.2 = .free → ∃ c, env.cells.lookup x.1 = some c) :
    ∃ cl, closureFor scope env = pure cl ∧ (∀ x c, cl.lookup x = some c → env.cells.lookup x = some c) ∧ ∀ x ∈ scope.names, x.2 = .free → ∃ c, cl.lookup x.1 = some c := by
  obtain ⟨cl, e1, e2, e3, _⟩ := forIn_cl (env := env) (f := fun x r => match x with | (name, kind) => if (kind == .free) = true then (do let c ← cellOf env name; pure (ForInStep.yield ((name, c) :: r))) else pure (ForInStep.yield r))
    (fun x r hx => by
      obtain ⟨n, k⟩ := x
      have : (k == NameKind.free) = false := by simpa using hx
      simp only [this, Bool.false_eq_true, if_false])
    (fun x r c hx hc => by
      obtain ⟨n, k⟩ := x
      have hx : k = .free := hx
      have hc : env.cells.lookup n = some c := hc
      subst hx
      simp only [cellOf, hc, beq_self_eq_true, if_true, pure_bind]) scope.names [] h (by simp)
  refine ⟨cl, ?_, e2, e3⟩
  unfold closureFor
  first
    | (rw [show _ = pure cl from e1]; rfl)
    | exact (congrArg (· >>= pure) e1).trans (pure_bind ..)

section
variable {prog : Program} {w : World} {A : Around} {R : Result → Shared → Prop} {s : Shared}
theorem codeAny_compLoop_gen {elt target iter : Expr} {scope : Scope} {pos : Pos} {it acc : Value} {env : Env} (I : Nat → Shared → Prop)
    (turn : ∀ n s, I n s → wpAny (model prog w) A (pyNext it) (fun r s₁ => match r with
      | none => R (.ok .next) s₁
      | some v => wpAny (model prog w) A (letOwnedTupleGo target it v) (fun _ s₂ => wpAny (model prog w) A (assign target env v) (fun _ s₃ => wpAny (model prog w) A (eval elt env) (fun x s₄ =>
          wpAny (model prog w) A (call (.builtin "list.append") [acc, x]) (fun _ s₅ => ∃ m, m < n ∧ I m s₅) (fun _ _ => False) s₄) (fun _ _ => False) s₃) (fun _ _ => False) s₂) (fun _ _ => False) s₁) (fun _ _ => False) s)
    (n : Nat) (h : I n s) : codeAny (model prog w) A (.compLoop (.ListComp elt [⟨target, iter, [], 0⟩] scope pos) 0 it acc env) R s := by
  refine codeAny_loop rfl I (fun n s hI => ?_) n h
  show wpAny _ _ ((compTurn (.ListComp elt [⟨target, iter, [], 0⟩] scope pos) 0 it acc env).onRaise (fun x => do noteFrame x env; theTreesLotGoes x)) _ _ s
  refine wpAny_noted ?_
  rw [compTurn_list1]
  refine wpAny_bind (wpAny_standAt (wpAny_bind (wpAny_mono (turn n s hI) (fun r s₁ h₁ => ?_) fun _ _ h' => h'.elim)))
  cases r with
  | none => exact wpAny_pure h₁
  | some v =>
    exact wpAny_bind (wpAny_mono h₁ (fun _ s₂ h₂ => wpAny_bind (wpAny_mono h₂ (fun _ s₃ h₃ => wpAny_bind (wpAny_bind (wpAny_mono h₃ (fun x s₄ h₄ => wpAny_bind (wpAny_mono h₄
      (fun _ s₅ h₅ => wpAny_pure (wpAny_pure ⟨rfl, h₅⟩)) fun _ _ h' => h'.elim)) fun _ _ h' => h'.elim))) fun _ _ h' => h'.elim)) fun _ _ h' => h'.elim)
end
end PySem

namespace L2
open PySem PySem.Spec PyProof.Rows

section
variable {X : Cx} {pins : List (Addr × Obj)} {σ : St} {H : Hp} {s : Shared} {h' : Heap}
/-- the records at ch turn, a new object is laid and tracked -/
theorem Inv.turnL {t' : Nat} {ch : List Addr} {t : Addr} {o : HO} (I : Inv X pins σ H s) (hf : ∀ b ∈ ch, FpOk X pins H b)
    (k : ∀ b u, b ∉ ch → s.heap.get? b = some u → h'.get? b = some u) (hp : s.heap.objs.size ≤ t) (new : ObjOk X.prog X.w (upd H t o) h' t o) :
    Inv X pins σ (upd H t o) { s with heap := h', toks := t' } := by
  have hn : H t = none := I.hok.fresh hp
  have nch : ∀ b u, H b = some u → b ∉ ch := fun b u e z => by rw [(hf b z).1] at e; cases e
  have net : ∀ b u, s.heap.get? b = some u → b ≠ t := fun b u e => Nat.ne_of_lt (Nat.lt_of_lt_of_le (Heap.lt_size e) hp)
  refine I.step (g' := s.gens) (d' := s.drawn) (ch := ch) (fun b hb => ?_) (fun b u _ _ hc e _ => k b u hc e) (fun b u _ _ hc e _ => ⟨u.slots, k b u hc e⟩)
    (fun b u _ e n => by rw [upd_ne (net b u e)]; exact n) (fun b u hc e => ⟨u, k b u hc e⟩)
    (fun b xs e => by rw [upd_ne (ne_of_none e hn)]; exact e) (fun b u xs e => by rw [upd_ne (ne_of_none e hn)]; exact e)
    (fun b ps e => ⟨#[], by rw [upd_ne (ne_of_none e hn), e]; simp⟩) (fun m hm => ?_) (fun b u e => ?_) I.bare
  · obtain ⟨_, f1, _, f3, f4, f5⟩ := hf b hb
    exact ⟨f3, f1, f4, f5⟩
  · obtain ⟨ob, es, ep, ho, r⟩ := hm
    exact ⟨ob, es, ep, k _ ob (fun z => (hf _ z).2.1 rfl) ho, r⟩
  · by_cases hb : b = t
    · subst hb; rw [upd_same] at e; cases e; exact new
    · rw [upd_ne hb] at e
      refine (I.hok b u e).stay (fun c v hc q => k c v ?_ q) (fun c q => by rw [upd_ne (ne_of_none q hn)]; exact q) fun c xs q => by rw [upd_ne (ne_of_none q hn)]; exact q
      rcases hc with z | z
      · rw [z]; exact nch b u e
      · exact nch c _ z
end

/-! ### enumerate of a list, its pairs taken apart on the spot -/
def Ite (K : PySem.W.Frag) (a : Addr) : It :=
  ⟨fun i H => ∃ xs x, SqL K H a xs ∧ xs[i]? = some x,
   fun i H x H' => ∃ t v, x = .ref t ∧ H t = none ∧ H' = upd H t (.tup [.int (i : Int), v]) ∧ ∀ xs, SqL K H a xs → xs[i]? = some v,
   fun i H => ∃ xs, SqL K H a xs ∧ xs.length ≤ i⟩
theorem turn_enum {P : Program} {w : World} {K : PySem.W.Frag} {es : List Expr} {kk : Nat} {pos : Pos} (a it e : Addr) (hne : e ≠ it) :
    Turn P w K (.Tuple es kk pos) (Ite K a) [e, it] e (fun i h => (∃ old, IsEnum h e it ((i : Nat) : Int) old) ∧ h.IsListIter it a i) where
  mem := by simp
  obj := fun i h st b hb => by
    obtain ⟨⟨old, he⟩, hi⟩ := st
    rcases List.mem_cons.mp hb with rfl | hb
    · exact ⟨_, he, fun v z => by
        have z' : Data.fields _ = Data.cell v := z
        cases z'⟩
    · have eb := List.mem_singleton.mp hb
      subst eb
      obtain ⟨o, e1, c, d⟩ := hi
      exact ⟨o, e1, fun v z => by rw [d] at z; cases z⟩
  keep := fun i h h' st k => by
    obtain ⟨⟨old, he⟩, hi⟩ := st
    exact ⟨⟨old, k e (by simp) _ he⟩, hi.at fun o q => k it (by simp) o q⟩
  item := by
    intro X hP hw hK hc i pins s σ H E I hf st hg
    subst hP hw hK
    obtain ⟨⟨old, he⟩, hi⟩ := st
    obtain ⟨xs, x, hq, hx⟩ := hg
    obtain ⟨its, rv, p, hz⟩ := I.list hq
    obtain ⟨u, hu, ru⟩ := rv.get hx
    have hel : e < s.heap.objs.size := Heap.lt_size he
    have hil : it < s.heap.objs.size := by obtain ⟨o, q, _⟩ := id hi; exact Heap.lt_size q
    refine wpAny_pyNext_enum_item he hi p.isList (x := u) (by simpa using hu) hne fun h1 ho hi1 hT hsz hk => ?_
    refine ⟨_, rfl, wpAny_letOwnedTupleGo_enum ho fun h2 he2 hs2 => ?_⟩
    replace hs2 : Heap.SameBut e h1 h2 := hs2
    have hT2 : h2.get? s.heap.objs.size = some { cls := .type "tuple", data := .seq #[.int (i : Int) s.toks, u] } := (hs2.2 _ (Nat.ne_of_gt hel)).trans hT
    have I1 : Inv X pins σ (upd H s.heap.objs.size (.tup [.int (i : Int), x])) { s with heap := h2, toks := s.toks + 1 } :=
      I.turnL (ch := [e, it]) hf (fun b o hb q => by
        have hbe : b ≠ e := fun z => hb (by simp [z])
        have hbi : b ≠ it := fun z => hb (by simp [z])
        exact hs2.extBut b o hbe (hk b o hbe hbi q)) (Nat.le_refl _)
        ⟨by show 2 ≤ sizeLine; decide, [.int (i : Int) s.toks, u], .cons ⟨_, rfl⟩ (.cons ru .nil), ⟨_, hT2, rfl, _, rfl⟩⟩
    refine ⟨.ref s.heap.objs.size, _, I1, rfl, ⟨_, x, rfl, I.hok.fresh (Nat.le_refl _), rfl, fun ys hy => by rw [I.list_inj hy hq]; exact hx⟩, ⟨⟨u, ?_⟩, ?_⟩, fun b hb => ?_⟩
    · have : ((i + 1 : Nat) : Int) = (i : Int) + 1 := by push_cast; rfl
      rw [this]; exact he2
    · exact hi1.extBut hs2.extBut (Ne.symm hne)
    · have hbl : b < s.heap.objs.size := by
        rcases List.mem_cons.mp hb with rfl | hb
        · exact hel
        · rw [List.mem_singleton.mp hb]; exact hil
      rw [upd_ne (Nat.ne_of_lt hbl)]
      exact (hf b hb).1
  done := by
    intro X hP hw hK hc i pins s σ H E I hf st hg
    subst hP hw hK
    obtain ⟨⟨old, he⟩, hi⟩ := st
    obtain ⟨xs, hq, hx⟩ := hg
    obtain ⟨its, rv, p, hz⟩ := I.list hq
    obtain ⟨f0, f1, f2, f3, f4, f5⟩ := hf it (by simp)
    have hl := rv.length
    exact wpAny_pyNext_enum_end (I.ok.hd hc) he hi p.isList (by simp; omega) fun h' eb => ⟨rfl, I.turned (t' := s.toks) (fun b o hb e => eb b o hb e) f0 f1 f3 f4 f5⟩
  self := fun _ _ _ _ _ st h => by
    obtain ⟨⟨old, he⟩, _⟩ := st
    exact wpAny_pyIter_enum he h
section
variable {X : Cx}
def iEnum (K : PySem.W.Frag) (ta : TA) : TI := fun σ H R => ta σ H fun vs H1 => ∃ a, vs = [.ref a] ∧ (∃ xs, SqL K H1 a xs) ∧ R (Ite K a) H1
theorem pi_enum {es : List Expr} {kk : Nat} {p0 : Pos} {l : Expr} {ta : TA} {p pos : Pos} (hg : Gl X "enumerate") (hm : X.mg "enumerate" = none) (ha : PA X [l] ta) (hs : starEach [l] X.env = [(false, eval l X.env)] := by rfl) :
    PI X (.Tuple es kk p0) (.Call (.Name "enumerate" p) [l] [] pos) (iEnum X.K ta) := by
  intro pins s σ H R I h
  refine Call_ (ld_blt I hg hm boot_enumerate (PyProof.Rows.callWith_type1 (thn (ha pos pins s σ H _ I h) fun us s1 ⟨vs, H1, I1, r1, q1⟩ => ?_) hs rfl))
  obtain ⟨a, e, ⟨xs, hq⟩, q⟩ := q1
  subst e
  cases r1 with
  | cons r rr =>
    cases rr
    cases r
    obtain ⟨its, rv, p, hz⟩ := I1.list hq
    refine call_enumerate_list p.isList fun h' he hi hsz hk => ?_
    refine wpAny_pyIter_enum he ?_
    have I2 : Inv X pins σ H1 { s1 with heap := h' } := I1.kept (t' := s1.toks) hk
    refine ⟨s1.heap.objs.size + 1, [s1.heap.objs.size + 1, s1.heap.objs.size], _, _, H1, rfl, I2, turn_enum a s1.heap.objs.size (s1.heap.objs.size + 1) (Nat.succ_ne_self _), ⟨⟨_, he⟩, hi⟩, fun b hb => ?_, q⟩
    have hb' : s1.heap.objs.size ≤ b := by
      rcases List.mem_cons.mp hb with rfl | hb
      · exact Nat.le_succ _
      · rw [List.mem_singleton.mp hb]; exact Nat.le_refl _
    exact I1.fpOk hb' (I1.hok.fresh hb')
/-- over the pairs of a list that the body leaves as it is -/
theorem for_enum {K : PySem.W.Frag} {a : Addr} {xs : List V} {g : TG} {tb : TS} {D : Ends} {σ : St} {H : Hp} (Pv : Nat → St → Hp → Prop) (h0 : Pv 0 σ H) (hl : ∀ i σ H, i ≤ xs.length → Pv i σ H → SqL K H a xs)
    (hs : ∀ i x σ H t, xs[i]? = some x → Pv i σ H → H t = none → g (.ref t) σ (upd H t (.tup [.int (i : Int), x])) fun σ2 H2 => tb { D with nx := Pv (i + 1), ct := Pv (i + 1), bk := D.nx } σ2 H2) (hd : ∀ σ H, Pv xs.length σ H → D.nx σ H) :
    ∃ W : Nat → Nat → St → Hp → Prop, (∃ m, W 0 m σ H) ∧ ∀ i m σ H, W i m σ H →
      ((Ite K a).stop i H ∧ D.nx σ H) ∨ ((Ite K a).go i H ∧ ∃ N : St → Hp → Prop, (∀ σ' H', N σ' H' → ∃ m', m' < m ∧ W (i + 1) m' σ' H') ∧ ∀ x H', (Ite K a).yld i H x H' → g x σ H' fun σ2 H2 => tb { D with nx := N, ct := N, bk := D.nx } σ2 H2) := by
  refine ⟨fun i m σ H => m = xs.length - i ∧ i ≤ xs.length ∧ Pv i σ H, ⟨xs.length, by simp, Nat.zero_le _, h0⟩, ?_⟩
  rintro i m σ H ⟨rfl, hi, p⟩
  have q := hl i σ H hi p
  by_cases hlt : i < xs.length
  · refine .inr ⟨⟨xs, xs[i], q, by simp [hlt]⟩, Pv (i + 1), fun σ' H' p' => ⟨xs.length - (i + 1), by omega, rfl, hlt, p'⟩, fun x H' y => ?_⟩
    obtain ⟨t, v, rfl, ht, rfl, y⟩ := y
    exact hs i v σ H t (y xs q) p ht
  · have e : i = xs.length := by omega
    subst e
    exact .inl ⟨⟨xs, q, Nat.le_refl _⟩, hd σ H p⟩
end

/-! ### list comprehensions, one clause, no test -/
def relS (scope sc0 : Scope) : Scope := { scope with names := scope.names.map fun (n, k) => if (k == .free && sc0.kind == .function && sc0.names.lookup n == some .cell) then (n, .cell) else (n, k) }
def blk (X : Cx) (N' : List Str) (scope : Scope) (cl : List (Str × Addr)) (C : Addr) (s : Shared) (H : Hp) (ex : List Addr) (pins : List (Addr × Obj)) : Cx :=
  { X with N := N', s₀ := s, H₀ := H, env := compEnvC scope cl C X.env, outer := X.stack, ex := ex, fn := fun _ => false, pn := X.pn ++ pins, xe := fun _ _ => False }
def capOk (N : List Str) (sc : Scope) (p : Str × Option Nat) : Bool :=
  match p.2 with
  | none => true
  | some j => N[j]? == some p.1 && sc.names.lookup p.1 == some NameKind.free
/-- the block's names N', caps: from which slot of the def each comes (none: its own) -/
structure BlkScope (N : List Str) (sc0 sc : Scope) (N' : List Str) (caps : List (Option Nat)) : Prop where
  kind : sc.kind = .function
  names : ∀ x ∈ sc.names, x.2 = .local → sc.names.lookup x.1 = some .local
  nocell : ∀ x ∈ sc.names, x.2 ≠ .cell
  frees : ∀ x ∈ sc.names, x.2 = .free → sc0.names.lookup x.1 = some .cell ∨ sc0.names.lookup x.1 = some .free
  len : caps.length = N'.length
  cap : ((N'.zip caps).all (capOk N sc)) = true
  nd : N'.Nodup
def capσ (caps : List (Option Nat)) (σ : St) : St := caps.map fun o => o.bind fun j => σ.getD j none
def Wk (σ' σ : St) : Prop := σ'.length = σ.length ∧ ∀ (i : Nat) v, σ'[i]? = some (some v) → σ[i]? = some (some v)
theorem Wk.set {σ : St} {i : Nat} {v : V} (h : σ[i]? = some none) : Wk σ (σ.set i (some v)) := by
  refine ⟨by simp, fun j w e => ?_⟩
  by_cases hj : i = j
  · subst hj; rw [h] at e; cases e
  · rw [List.getElem?_set_ne hj]; exact e
theorem lookup_relS {names : List (Str × NameKind)} {f : Str × NameKind → Str × NameKind} (hf : ∀ x, (f x).1 = x.1) {x : Str} {k : NameKind} (h : (names.map f).lookup x = some k) : ∃ y ∈ names, y.1 = x ∧ (f y).2 = k := by
  induction names with
  | nil => simp at h
  | cons y r ih =>
    rw [List.map_cons] at h
    have hl : List.lookup x (f y :: r.map f) = match x == (f y).1 with | true => some (f y).2 | false => List.lookup x (r.map f) := by
      cases f y with
      | mk a b =>
        simp only [List.lookup_cons]
        cases x == a <;> rfl
    rw [hl] at h
    cases hb : x == (f y).1 with
    | true =>
      rw [hb] at h
      cases h
      exact ⟨y, List.mem_cons_self, by rw [← hf y]; exact (beq_iff_eq.mp hb).symm, rfl⟩
    | false =>
      rw [hb] at h
      obtain ⟨z, hz, e1, e2⟩ := ih h
      exact ⟨z, List.mem_cons_of_mem _ hz, e1, e2⟩

section
variable {X : Cx} {pins : List (Addr × Obj)} {σ : St} {H : Hp} {s : Shared} {scope : Scope} {cl : List (Str × Addr)} {C : Addr} {N' : List Str} {ex : List Addr} {caps : List (Option Nat)}
theorem blk_ok (I : Inv X pins σ H s) (S : BlkScope X.N X.env.scope scope N' caps) (hcl1 : ∀ x c, cl.lookup x = some c → X.env.cells.lookup x = some c) (hcl2 : ∀ x ∈ scope.names, x.2 = .free → ∃ c, cl.lookup x.1 = some c)
    (hC : s.heap.objs.size ≤ C) (hf : ∀ b ∈ ex, FpOk X pins H b) (hex : ∀ b ∈ ex, b < s.heap.objs.size) : (blk X N' scope cl C s H ex pins).Ok where
  mod := I.ok.mod
  kind := S.kind
  glob := I.ok.glob
  blt := I.ok.blt
  above := hC
  inj := fun x y c hx hy => I.ok.inj x y c (hcl1 x c hx) (hcl1 y c hy)
  has := fun x hx => by
    have hx' : (relS scope X.env.scope).names.lookup x = some .cell ∨ (relS scope X.env.scope).names.lookup x = some .free := hx
    have fin : ∀ k, (k = NameKind.cell ∨ k = NameKind.free) → (relS scope X.env.scope).names.lookup x = some k → ∃ c, cl.lookup x = some c := fun k hk hl => by
      obtain ⟨y, hy, e1, e2⟩ := lookup_relS (fun z => by obtain ⟨n, k⟩ := z; dsimp only; split <;> rfl) hl
      obtain ⟨n, k0⟩ := y
      have e1 : n = x := e1
      subst e1
      have hfree : k0 = .free := by
        dsimp only at e2
        split at e2
        · rename_i hcond
          simp only [Bool.and_eq_true, beq_iff_eq] at hcond
          exact hcond.1.1
        · have e2 : k0 = k := e2
          rcases hk with rfl | rfl
          · exact absurd e2 (S.nocell _ hy)
          · exact e2
      exact hcl2 _ hy hfree
    rcases hx' with h | h
    · exact fin _ (.inl rfl) h
    · exact fin _ (.inr rfl) h
  cab := fun _ _ h => by cases h
  hd := I.ok.hd
  frames := I.ok.frames
  stk := .inl rfl
  exf := fun b hb => ⟨Nat.ne_of_lt (Nat.lt_of_lt_of_le (hex b hb) hC), fun x c hc => (hf b hb).2.2.2.2.1 x c (hcl1 x c hc)⟩
  bs := I.bs
  bsz := Nat.le_trans I.ok.bsz I.sz
  noex := fun b o e hb => by
    rcases (hf b hb).2.2.2.1 with z | z
    · exact I.ok.noex b o e z
    · exact absurd (Nat.lt_of_lt_of_le (Heap.lt_size (I.ok.bs b o e).1) z) (Nat.lt_irrefl _)
  exfs := fun b hb hm => by
    rcases List.mem_cons.mp (I.stkSub b hm) with z | z
    · exact (hf b hb).2.1 z
    · exact (hf b hb).2.2.1 z
  funs := I.stack
  frf := I.stkFree

theorem capσ_get {i : Nat} {v : V} (h : (capσ caps σ)[i]? = some (some v)) : ∃ j, caps[i]? = some (some j) ∧ σ[j]? = some (some v) := by
  unfold capσ at h
  rw [List.getElem?_map] at h
  cases hc : caps[i]? with
  | none => rw [hc] at h; simp at h
  | some o =>
    rw [hc] at h
    cases o with
    | none => simp at h
    | some j =>
      refine ⟨j, rfl, ?_⟩
      have h : σ.getD j none = some v := by simpa using h
      rw [List.getD_eq_getElem?_getD] at h
      cases hj : σ[j]? with
      | none => rw [hj] at h; simp at h
      | some w => rw [hj] at h; simp at h; rw [h]

theorem blk_inv {acc n t' : Nat} {h₁ : Heap} {m : Str → Option Value} (I : Inv X pins σ H s) (S : BlkScope X.N X.env.scope scope N' caps) (hcl1 : ∀ x c, cl.lookup x = some c → X.env.cells.lookup x = some c) (hcl2 : ∀ x ∈ scope.names, x.2 = .free → ∃ c, cl.lookup x.1 = some c)
    (hC : s.heap.objs.size ≤ C) (hf : ∀ b ∈ ex, FpOk X pins H b) (hex : ∀ b ∈ ex, b < s.heap.objs.size) (hns : h₁.Ns C m) (old : ∀ b o, s.heap.get? b = some o → h₁.get? b = some o)
    (hacc : h₁.get? acc = some { cls := .type "list", data := .seq #[] n }) (hge : s.heap.objs.size ≤ acc) (hne : acc ≠ C) :
    Inv (blk X N' scope cl C s H ex pins) [] (capσ caps σ) (upd H acc (.lst [])) { s with heap := h₁, toks := t' } where
  ok := blk_ok I S hcl1 hcl2 hC hf hex
  os := rfl
  bare := I.bare
  base := Un.laid old hge (I.hok.fresh hge)
  loc := ⟨m, hns, fun i x v e1 e2 e3 => by
    obtain ⟨j, hj, hv⟩ := capσ_get e2
    have hz : (x, some j) ∈ N'.zip caps := by
      have : (N'.zip caps)[i]? = some (x, some j) := by rw [List.getElem?_zip_eq_some]; exact ⟨e1, hj⟩
      exact List.mem_of_getElem? this
    have hk := List.all_eq_true.mp S.cap _ hz
    simp only [capOk, Bool.and_eq_true, beq_iff_eq] at hk
    obtain ⟨hN, hfr⟩ := hk
    have hmem : (x, NameKind.free) ∈ scope.names := by
      have e : ∀ {l : List (Str × NameKind)}, l.lookup x = some .free → (x, NameKind.free) ∈ l := fun {l} => mem_of_lookup
      exact e hfr
    have h0 := S.frees _ hmem rfl
    obtain ⟨m0, hn0, hl⟩ := I.loc
    obtain ⟨u, r, l⟩ := hl j x v hN hv (by
      rcases h0 with h0 | h0
      · exact .inr (.inl h0)
      · exact .inr (.inr h0))
    refine ⟨u, r, ?_⟩
    have hcase : ∃ c, X.env.cells.lookup x = some c ∧ s.heap.IsCell c (some u) := by
      rcases l with ⟨hk, _⟩ | ⟨_, c, hc, hcell⟩
      · have hk' : X.env.scope.names.lookup x = some .local := hk
        rcases h0 with h0 | h0 <;> (rw [h0] at hk'; cases hk')
      · exact ⟨c, hc, hcell⟩
    obtain ⟨c, hc, hcell⟩ := hcase
    obtain ⟨c', hc'⟩ := hcl2 _ hmem rfl
    have ec := hcl1 x c' hc'
    rw [hc] at ec
    cases ec
    refine .inr ⟨?_, c, hc', hcell.keeps old⟩
    have e3' : Vis (relS scope X.env.scope) x := e3
    rcases e3' with h | h | h
    · exfalso
      obtain ⟨y, hy, q1, q2⟩ := lookup_relS (fun z => by obtain ⟨n, k⟩ := z; dsimp only; split <;> rfl) h
      obtain ⟨nn, k0⟩ := y
      have q1 : nn = x := q1
      subst q1
      dsimp only at q2
      split at q2
      · cases q2
      · have q2 : k0 = .local := q2
        subst q2
        have := S.names _ hy rfl
        have this : scope.names.lookup nn = some .local := this
        rw [hfr] at this; cases this
    · exact .inl h
    · exact .inr h⟩
  cell := fun x c e => let ⟨v, z⟩ := I.cell x c (hcl1 x c e); ⟨v, z.keeps old⟩
  free := by
    show upd H acc (.lst []) C = none
    rw [upd_ne (Ne.symm hne)]; exact I.hok.fresh hC
  freeC := fun x c e => by
    obtain ⟨v, z⟩ := I.cell x c (hcl1 x c e)
    have hl : c ≠ acc := Nat.ne_of_lt (Nat.lt_of_lt_of_le z.lt hge)
    rw [upd_ne hl]; exact I.freeC x c (hcl1 x c e)
  pin := fun p hp => by
    have hp' : p ∈ X.pn ++ pins := by
      have : p ∈ (X.pn ++ pins) ++ [] := hp
      simpa using this
    obtain ⟨e, n, ne, nf, d⟩ := I.pin p hp'
    have hlt := Heap.lt_size e
    refine ⟨old _ _ e, ?_, Nat.ne_of_lt (Nat.lt_of_lt_of_le hlt hC), fun z => ?_, d⟩
    · rw [upd_ne (Nat.ne_of_lt (Nat.lt_of_lt_of_le hlt hge))]; exact n
    · rcases List.mem_cons.mp (I.stkSub _ z) with z | z
      · exact ne z
      · exact nf z
  hok := I.hok.laid old hge ⟨Nat.zero_le _, [], n, .nil, hacc⟩
  len := by
    show (capσ caps σ).length = N'.length
    unfold capσ; rw [List.length_map]; exact S.len

/-- back from the block -/
theorem blk_back {H' : Hp} {s' : Shared} {σ' : St} {pins' : List (Addr × Obj)} (I : Inv X pins σ H s) (J : Inv (blk X N' scope cl C s H ex pins) pins' σ' H' s') (hf : ∀ b ∈ ex, FpOk X pins H b) : Inv X pins σ H' s' :=
  I.call' (ch := ex) J.os J.base J.hok J.bare fun b hb => by
    obtain ⟨_, f1, _, f3, f4, f5⟩ := hf b hb
    exact ⟨f3, f1, f4, f5⟩
/-- an untracked object at C, younger than the state s, has changed -/
theorem Inv.letC {H' : Hp} {s' : Shared} {h'' : Heap} {σ' : St} (I : Inv X pins σ H s) (hC : s.heap.objs.size ≤ C) (J : Inv X pins σ' H' s') (hn : H' C = none) (hs : Heap.SameBut C s'.heap h'') : Inv X pins σ' H' { s' with heap := h'' } := by
  refine J.turned (it := C) (t' := s'.toks) (fun b o hb e => (hs.2 b hb).trans e) hn (Nat.ne_of_gt (Nat.lt_of_lt_of_le I.lt hC)) (.inr (Nat.le_trans I.sz hC)) (fun x c e => ?_) fun p hp => ?_
  · obtain ⟨v, z⟩ := I.cell x c e
    exact Nat.ne_of_lt (Nat.lt_of_lt_of_le z.lt hC)
  · obtain ⟨e, _⟩ := I.pin p hp
    exact Nat.ne_of_lt (Nat.lt_of_lt_of_le (Heap.lt_size e) hC)
end

def tComp (wi : TI) (g : TG) (te : TE) (caps : List (Option Nat)) : TE := fun σ H Q => wi σ H fun J H1 => ∀ acc, H1 acc = none → ∃ W : Nat → Nat → List V → Hp → Prop, (∃ m, W 0 m [] (upd H1 acc (.lst []))) ∧ ∀ i m ys H, W i m ys H →
  (J.stop i H ∧ Q (.ref acc) H) ∨ (J.go i H ∧ ∃ N : List V → Hp → Prop, (∀ ys' H', N ys' H' → ∃ m', m' < m ∧ W (i + 1) m' ys' H') ∧ ∀ x H', J.yld i H x H' → g x (capσ caps σ) H' fun σ2 H2 => Wk (capσ caps σ) σ2 ∧ te σ2 H2 fun y H3 => H3 acc = some (.lst ys) ∧ ys.length < sizeLine ∧ N (ys ++ [y]) (upd H3 acc (.lst (ys ++ [y]))))

section
variable {X : Cx} {scope : Scope} {N' : List Str} {caps : List (Option Nat)} {elt iter tg : Expr} {pos : Pos} {wi : TI} {g : TG} {te : TE}

def CompR (caps : List (Option Nat)) (g : TG) (te : TE) (σ : St) (Q : VK) (J : It) (H1 : Hp) : Prop := ∀ acc, H1 acc = none → ∃ W : Nat → Nat → List V → Hp → Prop, (∃ m, W 0 m [] (upd H1 acc (.lst []))) ∧ ∀ i m ys H, W i m ys H →
  (J.stop i H ∧ Q (.ref acc) H) ∨ (J.go i H ∧ ∃ N : List V → Hp → Prop, (∀ ys' H', N ys' H' → ∃ m', m' < m ∧ W (i + 1) m' ys' H') ∧ ∀ x H', J.yld i H x H' → g x (capσ caps σ) H' fun σ2 H2 => Wk (capσ caps σ) σ2 ∧ te σ2 H2 fun y H3 => H3 acc = some (.lst ys) ∧ ys.length < sizeLine ∧ N (ys ++ [y]) (upd H3 acc (.lst (ys ++ [y]))))
theorem comp_core {pins : List (Addr × Obj)} {s : Shared} {σ : St} {H : Hp} {cl : List (Str × Addr)} {Q : VK} {E : Value → Shared → Prop} {RR : Value → Addr → Result → Shared → Prop} {it : Addr} {fp : List Addr} {tn : Nat → Heap → Prop} {J : It} (hc : X.calm = true) (S : BlkScope X.N X.env.scope scope N' caps)
    (hg : ∀ cl C s H ex pins, PG (blk X N' scope cl C s H ex pins) tg g) (he : ∀ cl C s H ex pins, PE (blk X N' scope cl C s H ex pins) elt te)
    (hcl1 : ∀ x c, cl.lookup x = some c → X.env.cells.lookup x = some c) (hcl2 : ∀ x ∈ scope.names, x.2 = .free → ∃ c, cl.lookup x.1 = some c)
    (I : Inv X pins σ H s) (T : Turn X.prog X.w X.K tg J fp it tn) (st : tn 0 s.heap) (f2 : ∀ b ∈ fp, FpOk X pins H b) (R : CompR caps g te σ Q J H)
    (hRR : ∀ acc C H' s' m, s.heap.objs.size ≤ C → s'.heap.Ns C m → Inv X pins σ H' s' → H' C = none → Q (.ref acc) H' → RR (.ref acc) C (.ok .next) s') :
    wpAny (model X.prog X.w) X.A (newList []) (fun acc s₃ => wpAny (model X.prog X.w) X.A (newFunctionEnv scope X.env.globals cl [] X.env.qual none .none (some X.env)) (fun cenv s₄ =>
      codeAny (model X.prog X.w) X.A (.compStart (.ListComp elt [⟨tg, iter, [], 0⟩] scope pos) 0 (.ref it) acc { cenv with scope := relabel scope X.env }) (RR acc cenv.locals) s₄) E s₃) E s := by
  refine wpAny_newObj_type (wpAny_newFunctionEnv S.nocell (by intro y hy; simp at hy) (fun h₁ hns₁ hsb₁ => ?_) S.kind)
  dsimp only at hns₁ hsb₁ ⊢
  generalize hP2 : s.heap.push { cls := .type "list", dict := none, data := .seq ([] : List Value).toArray } = P2 at hns₁ hsb₁ ⊢
  have hC : P2.objs.size = s.heap.objs.size + 1 := by rw [← hP2, Heap.size_push]
  have hDC : s.heap.objs.size ≠ P2.objs.size := by rw [hC]; exact Nat.ne_of_lt (Nat.lt_succ_self _)
  have hCle : s.heap.objs.size ≤ P2.objs.size := by rw [hC]; exact Nat.le_succ _
  have old : ∀ b o, s.heap.get? b = some o → h₁.get? b = some o := fun b o e => hsb₁.extBut b o (by rw [hC]; exact Nat.ne_of_lt (Nat.lt_succ_of_lt (Heap.lt_size e))) (Heap.get?_push_of_some _ (hP2 ▸ Heap.get?_push_of_some _ e))
  have hacc : h₁.get? s.heap.objs.size = some { cls := .type "list", data := .seq #[] } := hsb₁.extBut _ _ hDC (Heap.get?_push_of_some _ (hP2 ▸ Heap.get?_push_size _ rfl))
  have hex : ∀ b ∈ fp, b < s.heap.objs.size := fun b hb => by obtain ⟨o, e, _⟩ := T.obj 0 _ st b hb; exact Heap.lt_size e
  obtain ⟨W, ⟨m0, w0⟩, turn⟩ := R s.heap.objs.size (I.hok.fresh (Nat.le_refl _))
  have I3 : ∀ t', Inv (blk X N' scope cl P2.objs.size s H fp pins) [] (capσ caps σ) (upd H s.heap.objs.size (.lst [])) { s with heap := h₁, toks := t' } := fun t' => blk_inv (t' := t') I S hcl1 hcl2 hCle f2 hex hns₁ old hacc (Nat.le_refl _) hDC
  have stat : ∀ {H' : Hp}, (∀ b ∈ fp, H' b = none) → ∀ b ∈ fp, FpOk (blk X N' scope cl P2.objs.size s H fp pins) [] H' b := fun hn b hb => by
    obtain ⟨_, q1, q2, q3, q4, q5⟩ := f2 b hb
    refine ⟨hn b hb, Nat.ne_of_lt (Nat.lt_of_lt_of_le (hex b hb) hCle), fun z => ?_, .inl hb, fun x c e => q4 x c (hcl1 x c e), fun p hp => q5 p ?_⟩
    · rcases List.mem_cons.mp (I.stkSub b z) with z | z
      · exact q1 z
      · exact q2 z
    · have : p ∈ (X.pn ++ pins) ++ [] := hp
      simpa using this
  have loop : ∀ s₃ : Shared, s₃ = { s with heap := h₁, toks := s.toks + ([] : List (Str × Value)).length } →
      codeAny (model X.prog X.w) X.A (.compLoop (.ListComp elt [⟨tg, iter, [], 0⟩] scope pos) 0 (.ref it) (.ref s.heap.objs.size) (compEnvC scope cl P2.objs.size X.env)) (RR (.ref s.heap.objs.size) P2.objs.size) s₃ := by
    rintro s₃ rfl
    refine codeAny_compLoop_gen (fun n s' => ∃ i ys H', Inv (blk X N' scope cl P2.objs.size s H fp pins) [] (capσ caps σ) H' s' ∧ tn i s'.heap ∧ (∀ b ∈ fp, H' b = none) ∧ W i n ys H') ?_ m0
      ⟨0, [], _, I3 _, T.keep 0 _ _ st (fun b _ o e => old b o e), fun b hb => by rw [upd_ne (Nat.ne_of_lt (hex b hb))]; exact (f2 b hb).1, w0⟩
    rintro n s4 ⟨i, ys, H4, I4, st4, fr4, w4⟩
    rcases turn i n ys H4 w4 with ⟨stop, q⟩ | ⟨go, N, hN, step⟩
    · refine thn (T.done (blk X N' scope cl P2.objs.size s H fp pins) rfl rfl rfl hc i [] s4 _ H4 _ I4 (stat fr4) st4 stop) fun r s5 ⟨hr, I5⟩ => ?_
      subst hr
      obtain ⟨m, hm, _⟩ := id I5.loc
      exact hRR _ _ H4 s5 m hCle hm (blk_back I I5 f2) I5.free q
    · refine thn (T.item (blk X N' scope cl P2.objs.size s H fp pins) rfl rfl rfl hc i [] s4 _ H4 _ I4 (stat fr4) st4 go) fun r s5 ⟨u, hr, h5⟩ => ?_
      subst hr
      refine thn h5 fun _ s6 ⟨x, H6, I6, r6, y6, st6, fr6⟩ => ?_
      have I6' := I6.pinned (stat fr6) (T.obj _ _ st6)
      refine thn (hg cl _ s H fp pins _ s6 _ H6 x u _ I6' r6 (step x H6 y6)) fun _ s7 ⟨σ7, H7, I7, wk7, q7⟩ => ?_
      refine thn (he cl _ s H fp pins _ s7 σ7 H7 _ I7 q7) fun yv s8 ⟨y, H8, I8, r8, ha8, hsz8, w8⟩ => ?_
      refine thn (mt_append (X := blk X N' scope cl P2.objs.size s H fp pins) _ s8 σ7 H8 (.ref s.heap.objs.size) [y] (.ref s.heap.objs.size) [yv] (fun _ H9 => H9 = upd H8 s.heap.objs.size (.lst (ys ++ [y]))) I8 rfl (.cons r8 .nil) ⟨_, ys, y, rfl, rfl, ha8, hsz8, rfl⟩) fun _ s9 ⟨_, H9, I9, _, e9⟩ => ?_
      subst e9
      obtain ⟨m', hm', w8⟩ := hN _ _ w8
      refine ⟨m', hm', i + 1, ys ++ [y], _, I9.unpinned.weak wk7.1 wk7.2, T.keep _ _ _ st6 fun b hb o e => (I9.pin (b, o) (List.mem_append_right _ (List.mem_append_right _ (mem_pinsAt hb e)))).1, fun b hb => ?_, w8⟩
      obtain ⟨o, e, d⟩ := T.obj _ _ st6 b hb
      exact (I9.pin (b, o) (List.mem_append_right _ (List.mem_append_right _ (mem_pinsAt hb e)))).2.1
  exact codeAny_compStart_list (loop _ rfl) (T.self _ 0 _ _ _ (T.keep 0 _ _ st (fun b _ o e => old b o e)) (loop _ rfl))

theorem clos_of {pins : List (Addr × Obj)} {s : Shared} {σ : St} {H : Hp} (I : Inv X pins σ H s) (S : BlkScope X.N X.env.scope scope N' caps) :
    ∃ cl, closureFor scope X.env = pure cl ∧ (∀ x c, cl.lookup x = some c → X.env.cells.lookup x = some c) ∧ ∀ x ∈ scope.names, x.2 = .free → ∃ c, cl.lookup x.1 = some c :=
  closure_ok fun x hx hf => I.ok.has x.1 (S.frees x hx hf)

theorem pe_comp {N : List Str} {sc0 : Scope} (S : BlkScope N sc0 scope N' caps) (hc : X.calm = true) (hi : PI X tg iter wi)
    (hg : ∀ cl C s H ex pins, PG (blk X N' scope cl C s H ex pins) tg g) (he : ∀ cl C s H ex pins, PE (blk X N' scope cl C s H ex pins) elt te)
    (hs : ∀ x, foldedSetIterable iter X.env x = pure x := by intro _; rfl) (hN0 : X.N = N := by rfl) (h00 : X.env.scope = sc0 := by rfl) : PE X (.ListComp elt [⟨tg, iter, [], 0⟩] scope pos) (tComp wi g te caps) := by
  subst hN0 h00
  intro pins s σ H Q I h
  obtain ⟨cl, hclos, hcl1, hcl2⟩ := clos_of I S
  rw [eval_ListComp]
  refine wpAny_comprehension_free (use := none) rfl hs hclos S.kind S.names (thn (hi pins s σ H _ I h) fun xv s1 h1 => thn h1 fun itv s2 h2 => ?_)
  obtain ⟨it, fp, tn, J, H2, e, I2, T, st2, f2, R⟩ := h2
  subst e
  refine comp_core (RR := fun acc C => compPost (model X.prog X.w) X.A X.xe none (EP X pins σ Q) acc C) hc S hg he hcl1 hcl2 I2 T st2 f2 R ?_
  intro acc C H' s' m hC hm J' hn q
  exact ⟨m, hm, fun h' hs' => ⟨.ref _, H', I2.letC hC J' hn hs', rfl, q⟩⟩

/-- name = [.. for ..], the store exchanged with the letting go of the block's names -/
theorem ps_setC {i : Nat} {x : Str} {pos' spos : Pos} {N : List Str} {sc0 : Scope} (S : BlkScope N sc0 scope N' caps) (hc : X.calm = true) (hN : X.N.Nodup) (hi' : X.N[i]? = some x) (hx : Loc X.env.scope x) (hi : PI X tg iter wi)
    (hg : ∀ cl C s H ex pins, PG (blk X N' scope cl C s H ex pins) tg g) (he : ∀ cl C s H ex pins, PE (blk X N' scope cl C s H ex pins) elt te)
    (hsw : swapsWith (.ListComp elt [⟨tg, iter, [], 0⟩] scope pos) (some (.Name x pos')) spos.line X.env = pure true := by rfl)
    (hf : X.fn x = true ∨ X.env.scope.names.lookup x = some .local := by first | exact .inl rfl | exact .inr rfl | assumption)
    (hs : ∀ x, foldedSetIterable iter X.env x = pure x := by intro _; rfl) (hN0 : X.N = N := by rfl) (h00 : X.env.scope = sc0 := by rfl) : PS X (.Assign [.Name x pos'] (.ListComp elt [⟨tg, iter, [], 0⟩] scope pos) spos) (tAsg (tComp wi g te caps) (gName i)) := by
  subst hN0 h00
  intro pins s σ H D I h
  obtain ⟨cl, hclos, hcl1, hcl2⟩ := clos_of I S
  rw [exec_Assign_Name_used _ _ _ _ hsw]
  refine wpAny_bind (wpAny_standAt (wpAny_bind ?_))
  show wpAny _ X.A (do let _ ← comprehension (.ListComp elt [⟨tg, iter, [], 0⟩] scope pos) scope X.env _ (newList []) false (eval iter X.env) (some (assign (.Name x pos') X.env))) _ _ s
  refine wpAny_bind (wpAny_mono (wpAny_comprehension_free (use := some (assign (.Name x pos') X.env)) (Q := fun _ s' => SP X pins D .next s') rfl hs hclos S.kind S.names
    (thn (hi pins s σ H _ I h) fun xv s1 h1 => thn h1 fun itv s2 h2 => ?_)) (fun _ s' hq => wpAny_pure (wpAny_pure hq)) fun _ _ e => e)
  obtain ⟨it, fp, tn, J, H2, e, I2, T, st2, f2, R⟩ := h2
  subst e
  refine comp_core (Q := fun x H1 => gName i x σ H1 D.nx) (RR := fun acc C => compPost (model X.prog X.w) X.A X.xe (some (assign (.Name x pos') X.env)) (fun _ s' => SP X pins D .next s') acc C) hc S hg he hcl1 hcl2 I2 T st2 f2 R ?_
  intro acc C H' s' m hC hm J' hn q
  obtain ⟨o, es, ep, ho, hd, hr⟩ := id hm
  have hCL : C ≠ X.env.locals := Nat.ne_of_gt (Nat.lt_of_lt_of_le I2.lt hC)
  have JP : Inv X (pins ++ [(C, o)]) σ H' s' := J'.pins_of fun p hp => by
    rcases List.mem_append.mp hp with hp | hp
    · exact J'.pin p (List.mem_append_right _ hp)
    · have e := List.mem_singleton.mp hp
      subst e
      exact ⟨ho, hn, hCL, I2.nofs hC, fun v z => by have z' : o.data = .cell v := z; rw [hd] at z'; cases z'⟩
  show wpAny _ X.A (assign (.Name x pos') X.env (.ref acc)) _ _ s'
  refine thn (pg_name hN hi' hx hf (pins ++ [(C, o)]) s' σ H' (.ref acc) (.ref acc) D.nx JP rfl q) fun _ s'' ⟨σ'', H'', J'', q''⟩ => ?_
  have hp := J''.pin (C, o) (List.mem_append_right _ (List.mem_append_right _ (List.mem_singleton.mpr rfl)))
  exact ⟨m, ⟨o, es, ep, hp.1, hd, hr⟩, fun h' hs' => ⟨σ'', H'', I2.letC hC J''.unpinned hp.2.1 hs', q''⟩⟩
end

/-! ### what a comprehension's reading wants -/
theorem comp_list {K : PySem.W.Frag} {a : Addr} {xs : List V} {g : TG} {te : TE} {caps : List (Option Nat)} {σ : St} {H : Hp} {Q : VK} (Pv : Addr → Nat → List V → Hp → Prop) (h0 : ∀ acc, H acc = none → Pv acc 0 [] (upd H acc (.lst [])))
    (hl : ∀ acc i ys H', H acc = none → i ≤ xs.length → Pv acc i ys H' → SqL K H' a xs)
    (hs : ∀ acc i x ys H', H acc = none → xs[i]? = some x → Pv acc i ys H' → g x (capσ caps σ) H' fun σ2 H2 => Wk (capσ caps σ) σ2 ∧ te σ2 H2 fun y H3 => H3 acc = some (.lst ys) ∧ ys.length < sizeLine ∧ Pv acc (i + 1) (ys ++ [y]) (upd H3 acc (.lst (ys ++ [y]))))
    (hd : ∀ acc ys H', H acc = none → Pv acc xs.length ys H' → Q (.ref acc) H') : CompR caps g te σ Q (Itl K a) H := by
  intro acc hacc
  refine ⟨fun i m ys H => m = xs.length - i ∧ i ≤ xs.length ∧ Pv acc i ys H, ⟨xs.length, by simp, Nat.zero_le _, h0 acc hacc⟩, ?_⟩
  rintro i m ys H' ⟨rfl, hi, p⟩
  have q := hl acc i ys H' hacc hi p
  by_cases hlt : i < xs.length
  · refine .inr ⟨⟨xs, xs[i], q, by simp [hlt]⟩, Pv acc (i + 1), fun ys' H' p' => ⟨xs.length - (i + 1), by omega, rfl, hlt, p'⟩, fun x H'' y => ?_⟩
    obtain ⟨e, y⟩ := y
    subst e
    exact hs acc i x ys _ hacc (y xs q) p
  · have e : i = xs.length := by omega
    subst e
    exact .inl ⟨⟨xs, q, Nat.le_refl _⟩, hd acc ys H' hacc p⟩
theorem comp_range {lo : Int} {n : Nat} {g : TG} {te : TE} {caps : List (Option Nat)} {σ : St} {H : Hp} {Q : VK} (Pv : Addr → Nat → List V → Hp → Prop) (h0 : ∀ acc, H acc = none → Pv acc 0 [] (upd H acc (.lst [])))
    (hs : ∀ acc i ys H', H acc = none → i < n → Pv acc i ys H' → g (.int (lo + i)) (capσ caps σ) H' fun σ2 H2 => Wk (capσ caps σ) σ2 ∧ te σ2 H2 fun y H3 => H3 acc = some (.lst ys) ∧ ys.length < sizeLine ∧ Pv acc (i + 1) (ys ++ [y]) (upd H3 acc (.lst (ys ++ [y]))))
    (hd : ∀ acc ys H', H acc = none → Pv acc n ys H' → Q (.ref acc) H') : CompR caps g te σ Q (Itr lo n) H := by
  intro acc hacc
  refine ⟨fun i m ys H => m = n - i ∧ i ≤ n ∧ Pv acc i ys H, ⟨n, by simp, Nat.zero_le _, h0 acc hacc⟩, ?_⟩
  rintro i m ys H' ⟨rfl, hi, p⟩
  by_cases hlt : i < n
  · refine .inr ⟨hlt, Pv acc (i + 1), fun ys' H' p' => ⟨n - (i + 1), by omega, rfl, hlt, p'⟩, fun x H'' y => ?_⟩
    obtain ⟨e, y⟩ := y
    subst e y
    exact hs acc i ys _ hacc hlt p
  · have e : i = n := by omega
    subst e
    exact .inl ⟨Nat.le_refl _, hd acc ys H' hacc p⟩

/-! ### isinstance, == of lists -/
def cvV : V → Option Value
  | .ty n => some (.type n)
  | .ref a => some (.ref a)
  | _ => none
section
variable {X : Cx}
theorem call_isinst : CallR X (.builtin "isinstance") (fun xs H Q => ∃ x c t cv b, xs = [x, c] ∧ TyOf X.K H x t ∧ cvV c = some cv ∧ PySem.W.kitOne X.K t cv = some b ∧ Q (.bl b) H) := by
  intro pins s σ H xs us Q I r h
  obtain ⟨x, c, t, cv, b, rfl, ty, hc, hk, q⟩ := h
  obtain ⟨u, w', rfl, r1, r2⟩ := vals2 r
  have e : w' = cv := by
    cases c with
    | ty n => have h1 : w' = Value.type n := r2; have h2 : some (Value.type n) = some cv := hc; cases h2; exact h1
    | ref a => have h1 : w' = Value.ref a := r2; have h2 : some (Value.ref a) = some cv := hc; cases h2; exact h1
    | non => cases hc
    | bl _ => cases hc
    | int _ => cases hc
    | str _ => cases hc
    | byt _ => cases hc
    | flt _ => cases hc
  subst e
  exact isinst_ok I r1 ty hk fun tk => ⟨.bl b, H, I.tok tk, rfl, q⟩
/-- lists of ints -/
theorem op_eqI (hu : X.A.units + 64 < cLine) : OpR X (compareOp .Eq) (fun x y H Q => ∃ (a b : Addr) (ns ms : List Int), x = .ref a ∧ y = .ref b ∧ SqL X.K H a (ns.map V.int) ∧ SqL X.K H b (ms.map V.int) ∧ Q (.bl (decide (ns = ms))) H) := by
  intro pins s σ H x y v u Q I rx ry h
  obtain ⟨a, b, ns, ms, rfl, rfl, ha, hb, q⟩ := h
  cases rx; cases ry
  obtain ⟨its, rv, p, _⟩ := I.list ha
  obtain ⟨its', rv', p', _⟩ := I.list hb
  exact PySem.W.ke_eq_ints p.isList p'.isList (intsAre_of rv) (intsAre_of rv') hu ⟨.bl _, H, I, rfl, q⟩
theorem op_neI (hu : X.A.units + 64 < cLine) : OpR X (compareOp .NotEq) (fun x y H Q => ∃ (a b : Addr) (ns ms : List Int), x = .ref a ∧ y = .ref b ∧ SqL X.K H a (ns.map V.int) ∧ SqL X.K H b (ms.map V.int) ∧ Q (.bl (!decide (ns = ms))) H) := by
  intro pins s σ H x y v u Q I rx ry h
  obtain ⟨a, b, ns, ms, rfl, rfl, ha, hb, q⟩ := h
  cases rx; cases ry
  obtain ⟨its, rv, p, _⟩ := I.list ha
  obtain ⟨its', rv', p', _⟩ := I.list hb
  exact PySem.W.ke_ne_ints p.isList p'.isList (intsAre_of rv) (intsAre_of rv') hu ⟨.bl _, H, I, rfl, q⟩
end
/-! a value's data, as == reads it -/
mutual
inductive Dt (K : PySem.W.Frag) (H : Hp) : V → PyData → Prop where
  | non : Dt K H .non .none
  | bl (b : Bool) : Dt K H (.bl b) (.bool b)
  | int (i : Int) : Dt K H (.int i) (.int i)
  | str (x : Str) : Dt K H (.str x) (.str x)
  | lst {a : Addr} {xs : List V} {ds : List PyData} : SqL K H a xs → Dts K H xs ds → Dt K H (.ref a) (.list ds)
  | tup {a : Addr} {xs : List V} {ds : List PyData} : SqT K H a xs → Dts K H xs ds → Dt K H (.ref a) (.tuple ds)
inductive Dts (K : PySem.W.Frag) (H : Hp) : List V → List PyData → Prop where
  | nil : Dts K H [] []
  | cons {x : V} {xs : List V} {d : PyData} {ds : List PyData} : Dt K H x d → Dts K H xs ds → Dts K H (x :: xs) (d :: ds)
end
section
variable {X : Cx} {pins : List (Addr × Obj)} {σ : St} {H : Hp} {s : Shared}
mutual
theorem Dt.reads (I : Inv X pins σ H s) : ∀ {x : V} {d : PyData} {u : Value}, Dt X.K H x d → RelV x u → ∃ as, Reads s.heap u d as
  | _, _, _, .non, r => by cases r; exact ⟨_, .none⟩
  | _, _, _, .bl b, r => by cases r; exact ⟨_, .bool b⟩
  | _, _, _, .int i, r => by obtain ⟨t, rfl⟩ := r; exact ⟨_, .int i t⟩
  | _, _, _, .str x, r => by obtain ⟨t, rfl⟩ := r; exact ⟨_, .str x t⟩
  | _, _, _, .lst h hs, r => by
    cases r
    obtain ⟨its, rv, p, _⟩ := I.list h
    obtain ⟨as, q⟩ := Dts.reads I hs rv
    obtain ⟨o, ho, hc, n, hd⟩ := p.isList
    exact ⟨_, .list ho hc hd (by simpa using q)⟩
  | _, _, _, .tup h hs, r => by
    cases r
    obtain ⟨its, rv, p, _⟩ := I.tuple h
    obtain ⟨as, q⟩ := Dts.reads I hs rv
    obtain ⟨o, ho, hc, n, hd⟩ := p
    exact ⟨_, .tuple ho hc hd (by simpa using q)⟩
theorem Dts.reads (I : Inv X pins σ H s) : ∀ {xs : List V} {ds : List PyData} {us : List Value}, Dts X.K H xs ds → Vals xs us → ∃ as, ReadsAll s.heap us ds as
  | _, _, _, .nil, r => by cases r; exact ⟨_, .nil⟩
  | _, _, _, .cons h hs, r => by
    cases r with
    | cons r rr =>
      obtain ⟨as, q⟩ := Dt.reads I h r
      obtain ⟨bs, q'⟩ := Dts.reads I hs rr
      exact ⟨_, .cons q q'⟩
end
end
section
variable {X : Cx}
theorem op_eqD (hu : X.A.units + 64 < cLine) : OpR X (compareOp .Eq) (fun x y H Q => ∃ d e, Dt X.K H x d ∧ Dt X.K H y e ∧ SeqAt.shaped d = true ∧ SeqAt.shaped e = true ∧ Q (.bl (PyData.eqv d e)) H) := by
  intro pins s σ H x y v u Q I rx ry h
  obtain ⟨d, e, hd, he, sd, se, q⟩ := h
  obtain ⟨as, r1⟩ := hd.reads I rx
  obtain ⟨bs, r2⟩ := he.reads I ry
  exact eq_dataH r1 r2 sd se hu ⟨.bl _, H, I, rfl, q⟩
end
end L2
/-! ## Reading the terms, step by step -/
namespace L2
open PySem PySem.Spec PyProof.Rows
section
variable {t u : TS} {te ta tb tc : TE} {tt uu : TT} {tar : TA} {g : TG} {D : Ends} {σ : St} {H : Hp} {Q : VK} {QB : Bool → Hp → Prop} {QL : List V → Hp → Prop} {QS : St → Hp → Prop} {v x y : V} {i j : Int} {n : Nat} {K : PySem.W.Frag}
theorem r_seq (h : t { D with nx := u D } σ H) : tSeq t u D σ H := h
theorem r_next (h : D.nx σ H) : tNext D σ H := h
theorem r_nx {f b c : St → Hp → Prop} {r : VK} (h : f σ H) : Ends.nx ⟨f, r, b, c⟩ σ H := h
theorem r_rt {f b c : St → Hp → Prop} {r : VK} (h : r v H) : Ends.rt ⟨f, r, b, c⟩ v H := h
theorem r_asg (h : te σ H fun x H1 => g x σ H1 D.nx) : tAsg te g D σ H := h
theorem r_gname (h : QS (σ.set n (some v)) H) : gName n v σ H QS := h
theorem r_gsub {to ti : TE} {ts : TSet} (h : to σ H fun o H1 => ti σ H1 fun i H2 => ts o i v H2 fun H3 => QS σ H3) : gSub to ti ts v σ H QS := h
theorem r_drop (h : te σ H fun _ H1 => D.nx σ H1) : tDrop te D σ H := h
theorem r_ret (h : te σ H D.rt) : tRet te D σ H := h
theorem r_ifs (h : tt σ H fun b H1 => if b = true then t D σ H1 else u D σ H1) : tIfS tt t u D σ H := h
theorem r_var (e : σ[n]? = some (some v)) (h : Q v H) : tVar n σ H Q := ⟨v, e, h⟩
theorem r_C (h : Q v H) : tC v σ H Q := h
theorem r_op {r : R2} (h : ta σ H fun x H1 => tb σ H1 fun y H2 => r x y H2 Q) : tOp r ta tb σ H Q := h
theorem r_test (h : te σ H fun x H' => ∃ k, x = .bl k ∧ QB k H') : tTest te σ H QB := h
theorem r_tB (h : te σ H fun x H' => ∃ k, x = .bl k ∧ QB k H') : tB te σ H QB := h
theorem r_bl {k : Bool} {Q : Bool → Prop} (h : Q k) : ∃ k', V.bl k = .bl k' ∧ Q k' := ⟨k, rfl, h⟩
theorem r_and (h : tt σ H fun c H1 => if c = true then uu σ H1 QB else QB false H1) : tAnd tt uu σ H QB := h
theorem r_or (h : tt σ H fun c H1 => if c = true then QB true H1 else uu σ H1 QB) : tOr tt uu σ H QB := h
theorem r_not (h : tt σ H fun c H1 => QB (!c) H1) : tNot tt σ H QB := h
theorem r_andV (h : ta σ H fun x H1 => ∃ c, x = .bl c ∧ if c = true then tb σ H1 Q else Q (.bl false) H1) : tAndV ta tb σ H Q := h
theorem r_orV (h : ta σ H fun x H1 => ∃ c, x = .bl c ∧ if c = true then Q (.bl true) H1 else tb σ H1 Q) : tOrV ta tb σ H Q := h
theorem r_notV (h : ta σ H fun x H1 => ∃ c, x = .bl c ∧ Q (.bl (!c)) H1) : tNotV ta σ H Q := h
theorem r_chain {r r' : R2} (h : ta σ H fun x H1 => tb σ H1 fun y H2 => r x y H2 fun z H3 => ∃ k, z = .bl k ∧ (if k = true then tc σ H3 fun w' H4 => r' y w' H4 Q else Q (.bl false) H3)) : tChain r r' ta tb tc σ H Q := h
theorem r_call {sp : Sp} {dvs : List V} {E : XK} (h : tar σ H fun vs H1 => sp (vs ++ dvs) H1 Q E) : tCall sp dvs E tar σ H Q := h
theorem r_cb {r : List V → Hp → VK → Prop} (h : tar σ H fun vs H1 => r vs H1 Q) : tCB r tar σ H Q := h
theorem r_cons (h : ta σ H fun x H1 => tar σ H1 fun xs H2 => QL (x :: xs) H2) : tCons ta tar σ H QL := h
theorem r_nil (h : QL [] H) : tNil σ H QL := h
theorem r_lst (h : tar σ H fun xs H1 => xs.length ≤ sizeLine ∧ ∀ p, H1 p = none → Q (.ref p) (upd H1 p (.lst xs))) : tLst tar σ H Q := h
theorem r_tup (h : tar σ H fun xs H1 => xs.length ≤ sizeLine ∧ ∀ p, H1 p = none → Q (.ref p) (upd H1 p (.tup xs))) : tTup tar σ H Q := h
theorem r_I0 {f : Int → Int → V} (h : Q (f i j) H) : rI0 f (.int i) (.int j) H Q := ⟨i, j, rfl, rfl, h⟩
theorem r_I {C : Int → Int → Prop} {f : Int → Int → V} (hc : C i j) (h : Q (f i j) H) : rI C f (.int i) (.int j) H Q := ⟨i, j, rfl, rfl, hc, h⟩
theorem r_eq (hs : scal x y = true) (h : Q (.bl (decide (x = y))) H) : rEq x y H Q := ⟨hs, h⟩
theorem r_ne (hs : scal x y = true) (h : Q (.bl (!decide (x = y))) H) : rNe x y H Q := ⟨hs, h⟩
theorem r_ixL {p : Addr} {xs : List V} (hs : SqL K H p xs) (ha : atI xs i = some v) (h : Q v H) : rIxL K (.ref p) (.int i) H Q := ⟨p, xs, i, v, rfl, rfl, hs, ha, h⟩
theorem r_bm {T : String} {r : V → List V → Hp → VK → Prop} {to : TE} (h : to σ H fun x H1 => tyV K T x H1 ∧ tar σ H1 fun xs H2 => r x xs H2 Q) : tBM K T r to tar σ H Q := h
theorem r_ite {A B : Prop} {c : Bool} (h1 : c = true → A) (h2 : c = false → B) : if c = true then A else B := by
  cases c with
  | true => exact h1 rfl
  | false => exact h2 rfl
theorem r_iteP {A B : Prop} {c : Bool} (hc : c = true) (h1 : A) : if c = true then A else B := by rw [if_pos hc]; exact h1
theorem r_iteN {A B : Prop} {c : Bool} (hc : c = false) (h1 : B) : if c = true then A else B := by rw [if_neg (by rw [hc]; decide)]; exact h1
theorem Same.upd_new {H : Hp} {p : Addr} {o : HO} (h : H p = none) : Same H (upd H p o) := fun b u e => by rw [upd_ne (ne_of_none e h)]; exact e
theorem sqL_same {K : PySem.W.Frag} {H H' : Hp} {a : Addr} {xs : List V} (e : Same H H') (h : SqL K H a xs) : SqL K H' a xs := e.seq h
theorem atI_get' {α : Type} {xs : List α} {i : Int} {v : α} (h0 : 0 ≤ i) (h : xs[i.toNat]? = some v) : atI xs i = some v := by
  have := atI_nat (xs := xs) (j := i.toNat) h
  rwa [Int.toNat_of_nonneg h0] at this
end
end L2
namespace L2
open PySem PySem.Spec PyProof.Rows
section
variable {wi : TI} {g : TG} {tb : TS} {te tl : TE} {ta : TA} {D : Ends} {σ : St} {H : Hp} {Q : VK} {R : It → Hp → Prop} {caps : List (Option Nat)} {K : PySem.W.Frag}
theorem r_for (h : wi σ H fun J H1 => ∃ W : Nat → Nat → St → Hp → Prop, (∃ m, W 0 m σ H1) ∧ ∀ i m σ H, W i m σ H →
    (J.stop i H ∧ D.nx σ H) ∨ (J.go i H ∧ ∃ N : St → Hp → Prop, (∀ σ' H', N σ' H' → ∃ m', m' < m ∧ W (i + 1) m' σ' H') ∧ ∀ x H', J.yld i H x H' → g x σ H' fun σ2 H2 => tb { D with nx := N, ct := N, bk := D.nx } σ2 H2)) : tFor wi g tb D σ H := h
theorem r_rng1 (h : ta σ H fun vs H1 => ∃ j : Int, vs = [.int j] ∧ -(2 ^ 62) ≤ j ∧ j < 2 ^ 62 ∧ R (Itr 0 j.toNat) H1) : iRng1 ta σ H R := h
theorem r_rng2 (h : ta σ H fun vs H1 => ∃ i j : Int, vs = [.int i, .int j] ∧ (-(2 ^ 62) ≤ i ∧ i < 2 ^ 62 ∧ -(2 ^ 62) ≤ j ∧ j < 2 ^ 62) ∧ R (Itr i (j - i).toNat) H1) : iRng2 ta σ H R := h
theorem r_ilist (h : tl σ H fun x H1 => ∃ a, x = .ref a ∧ (∃ xs, SqL K H1 a xs) ∧ R (Itl K a) H1) : iList K tl σ H R := h
theorem r_ienum (h : ta σ H fun vs H1 => ∃ a, vs = [.ref a] ∧ (∃ xs, SqL K H1 a xs) ∧ R (Ite K a) H1) : iEnum K ta σ H R := h
theorem r_comp (h : wi σ H fun J H1 => CompR caps g te σ Q J H1) : tComp wi g te caps σ H Q := h
theorem r_make {C : Addr} {sp : Sp} {dvs : List V} {E : XK} (h : ta σ H fun vs H1 => ∀ x dx, H1 x = none → H1 dx = none → dx ≠ x →
  sp (.ref x :: (vs ++ dvs)) (upd (upd H1 dx (.own x)) x (.ins C dx [])) (fun v H2 => v = .non ∧ Q (.ref x) H2) E) : tMake C sp dvs E ta σ H Q := h
theorem r_sfld {tv to : TE} {f : Str} (h : tv σ H fun y H1 => to σ H1 fun x H2 => ∃ a C dx fs, x = .ref a ∧ H2 a = some (.ins C dx fs) ∧ Cls K C ∧ NoAttr K C f ∧ fs.length < 1000 ∧
  D.nx σ (upd H2 a (.ins C dx (putF f y fs)))) : sFld K to tv f D σ H := h
end
end L2
/-! ### the same rules, the written part K named (a comprehension's block has its own context) -/
namespace L2
open PySem PySem.Spec PyProof.Rows
section
variable {X : Cx} (K : PySem.W.Frag)
theorem call_len_seqK (hK : X.K = K := by rfl) : CallR X (.builtin "len") (fun xs H Q => ∃ p ys, xs = [.ref p] ∧ (SqL K H p ys ∨ SqT K H p ys) ∧ Q (.int ys.length) H) := by subst hK; exact call_len_seq
theorem call_list_ofK (hK : X.K = K := by rfl) : CallR X (.type "list") (fun xs H Q => ∃ p ys, xs = [.ref p] ∧ (SqL K H p ys ∨ SqT K H p ys) ∧ ∀ l, H l = none → Q (.ref l) (upd H l (.lst ys))) := by subst hK; exact call_list_of
theorem call_tuple_ofK (hK : X.K = K := by rfl) : CallR X (.type "tuple") (fun xs H Q => ∃ p ys, xs = [.ref p] ∧ ((SqL K H p ys ∧ ∀ l, H l = none → Q (.ref l) (upd H l (.tup ys))) ∨ (SqT K H p ys ∧ Q (.ref p) H))) := by subst hK; exact call_tuple_of
theorem call_isinstK (hK : X.K = K := by rfl) : CallR X (.builtin "isinstance") (fun xs H Q => ∃ x c t cv b, xs = [x, c] ∧ TyOf K H x t ∧ cvV c = some cv ∧ PySem.W.kitOne K t cv = some b ∧ Q (.bl b) H) := by subst hK; exact call_isinst
theorem ix_listK (hK : X.K = K := by rfl) : IxR X (rIxL K) := by subst hK; exact ix_list
theorem pe_fldK {e : Expr} {f : Str} {pos : Pos} {ta : TE} (he : PE X e ta) (hb : attributeBase e f X.env (eval e X.env) = eval e X.env) (hK : X.K = K := by rfl) : PE X (.Attribute e f pos) (tFld K ta f) := by subst hK; exact pe_fld he hb
theorem ps_fldK {o value : Expr} {f : Str} {pos pos' : Pos} {ta tv : TE} (ha : PE X o ta) (hv : PE X value tv) (hs : swapsWith value (some (.Attribute o f pos')) pos.line X.env = pure false) (hK : X.K = K := by rfl) : PS X (.Assign [.Attribute o f pos'] value pos) (sFld K ta tv f) := by subst hK; exact ps_fld ha hv hs
theorem pe_bmK {o e : Expr} {es : List Expr} {to : TE} {t : TA} {name : Str} {apos cpos : Pos} {T id : String} {r : V → List V → Hp → VK → Prop} (pa : PlainAttrs T) (slot : Slot T name id) (hty : typeOf (.builtin id) = pure (.type "method_descriptor")) (hm : MtR X id r) (ho : PE X o to) (ha : PA X (e :: es) t)
    (hbase : attributeBase o name X.env (eval o X.env) = eval o X.env := by rfl) (hfew : ((backTo cpos (starEach (e :: es) X.env)).all (fun x => !x.1) && (backToKw cpos (keywordEach [] X.env)).all (fun x => x.1.isSome)
      && decide ((e :: es).length + ([] : List Keyword).length + (if ([] : List Keyword).isEmpty then 0 else 1) < 30)) = true := by rfl)
    (hline : (apos.endLine == cpos.line) = true := by rfl) (hs : starEach (e :: es) X.env = (false, eval e X.env) :: starEach es X.env := by rfl) (hplain : (backTo cpos (starEach es X.env)).any (·.1) = false := by rfl) (hK : X.K = K := by rfl) :
    PE X (.Call (.Attribute o name apos) (e :: es) [] cpos) (tBM K T r to t) := by subst hK; exact pe_bm pa slot hty hm ho ha hbase hfew hline hs hplain
theorem pi_listK {tg l : Expr} {tl : TE} (hl : PE X l tl) (hK : X.K = K := by rfl) : PI X tg l (iList K tl) := by subst hK; exact pi_list hl
theorem pi_enumK {es : List Expr} {kk : Nat} {p0 : Pos} {l : Expr} {ta : TA} {p pos : Pos} (hg : Gl X "enumerate") (hm : X.mg "enumerate" = none) (ha : PA X [l] ta) (hs : starEach [l] X.env = [(false, eval l X.env)] := by rfl) (hK : X.K = K := by rfl) : PI X (.Tuple es kk p0) (.Call (.Name "enumerate" p) [l] [] pos) (iEnum K ta) := by subst hK; exact pi_enum hg hm ha hs
theorem pg_tupK {pos : Pos} {es : List Expr} {k : Nat} {t : TGs} {n : Nat} (hc : X.calm = true) (h : PGs X es t) (hn : (assignEach es X.env).length = n := by rfl) (hst : (assignEach es X.env).findIdx? (·.1) = none := by rfl) (hK : X.K = K := by rfl) : PG X (.Tuple es k pos) (gTup K n t) := by subst hK; exact pg_tup hc h hn hst
theorem op_eqIK (hu : X.A.units + 64 < cLine) (hK : X.K = K := by rfl) : OpR X (compareOp .Eq) (fun x y H Q => ∃ (a b : Addr) (ns ms : List Int), x = .ref a ∧ y = .ref b ∧ SqL K H a (ns.map V.int) ∧ SqL K H b (ms.map V.int) ∧ Q (.bl (decide (ns = ms))) H) := by subst hK; exact op_eqI hu
theorem op_neIK (hu : X.A.units + 64 < cLine) (hK : X.K = K := by rfl) : OpR X (compareOp .NotEq) (fun x y H Q => ∃ (a b : Addr) (ns ms : List Int), x = .ref a ∧ y = .ref b ∧ SqL K H a (ns.map V.int) ∧ SqL K H b (ms.map V.int) ∧ Q (.bl (!decide (ns = ms))) H) := by subst hK; exact op_neI hu
theorem op_eqDK (hu : X.A.units + 64 < cLine) (hK : X.K = K := by rfl) : OpR X (compareOp .Eq) (fun x y H Q => ∃ d e, Dt K H x d ∧ Dt K H y e ∧ SeqAt.shaped d = true ∧ SeqAt.shaped e = true ∧ Q (.bl (PyData.eqv d e)) H) := by subst hK; exact op_eqD hu
end
end L2
namespace L2
open PySem PySem.Spec PyProof.Rows
/-- two ways meet: what holds of both -/
def tJoin (t : TS) : TS := fun D σ H => ∃ P : St → Hp → Prop, t { D with nx := P } σ H ∧ ∀ σ' H', P σ' H' → D.nx σ' H'
theorem ps_join {X : Cx} {st : Stmt} {t : TS} (h : PS X st t) : PS X st (tJoin t) := by
  intro pins s σ H D I hw
  obtain ⟨P, h1, h2⟩ := hw
  refine thn (h pins s σ H _ I h1) fun f s' q => ?_
  cases f with
  | next => obtain ⟨σ', H', I', q⟩ := q; exact ⟨σ', H', I', h2 σ' H' q⟩
  | brk => exact q
  | cont => exact q
  | ret v => exact q
theorem r_join {t : TS} {D : Ends} {σ : St} {H : Hp} (P : St → Hp → Prop) (h1 : t { D with nx := P } σ H) (h2 : ∀ σ' H', P σ' H' → D.nx σ' H') : tJoin t D σ H := ⟨P, h1, h2⟩
end L2
/-! ## The mirror: houses as plain data -/
namespace My
open PySem L2
def cellv (ns : List Int) (k : Int) : Int := if k < ns.length then ns.getD k.toNat 0 else 0
def stir1 (c k : Int) : Int := (c % 2147483647 + 977 * k + 1) * 48271 % 2147483647
def stir2 (s k : Int) : Int := (s + 40692 * (k + 3)) * 69621 % 2147483629
def draw (c k b : Int) : Int := stir2 (stir1 c k) k / 8 % b
theorem draw_nn (c k : Int) {b : Int} (h : 0 < b) : 0 ≤ draw c k b := Int.emod_nonneg _ (by omega)
theorem draw_lt (c k : Int) {b : Int} (h : 0 < b) : draw c k b < b := Int.emod_lt_of_pos _ h
def rowBy (c : Int) (d r : Int) (k : Nat) : List Int := (List.range d.toNat).map fun (j : Nat) => draw c (7 * (k : Int) + (j : Int)) r
def waysBy (c d r : Int) : List (List Int) := (List.range r.toNat).map (rowBy c d r)
def lampsBy (c r : Int) : List Bool := (List.range r.toNat).map fun (k : Nat) => decide (draw c (k : Int) 2 = 1)
/-- one door on -/
def step (rss : List (List Int)) (q d : Int) : Int := (rss.getD q.toNat []).getD d.toNat 0
def walkI (rss : List (List Int)) (q : Int) (w : List Int) : Int := w.foldl (step rss) q
structure Ways (d : Int) (rss : List (List Int)) : Prop where
  row : ∀ row ∈ rss, (row.length : Int) = d ∧ ∀ x ∈ row, 0 ≤ x ∧ x < rss.length
structure Valid (d : Int) (rss : List (List Int)) (ls : List Bool) : Prop extends Ways d rss where
  d1 : 1 ≤ d
  d6 : d ≤ 6
  r1 : 1 ≤ rss.length
  r400 : rss.length ≤ 400
  ll : ls.length = rss.length
def WordOk (d : Int) (w : List Int) : Prop := ∀ x ∈ w, 0 ≤ x ∧ x < d
theorem step_in {d : Int} {rss : List (List Int)} (W : Ways d rss) {q x : Int} (h0 : 0 ≤ q) (h1 : q < rss.length) (x0 : 0 ≤ x) (x1 : x < d) :
    ∃ row, rss[q.toNat]? = some row ∧ row[x.toNat]? = some (step rss q x) ∧ 0 ≤ step rss q x ∧ step rss q x < rss.length := by
  have hq : q.toNat < rss.length := by omega
  obtain ⟨hl, hr⟩ := W.row rss[q.toNat] (List.getElem_mem hq)
  have hx : x.toNat < rss[q.toNat].length := by omega
  have e : step rss q x = rss[q.toNat][x.toNat] := by
    unfold step
    have e1 : rss.getD q.toNat [] = rss[q.toNat] := by rw [List.getD_eq_getElem?_getD, List.getElem?_eq_getElem hq, Option.getD_some]
    rw [e1, List.getD_eq_getElem?_getD, List.getElem?_eq_getElem hx, Option.getD_some]
  obtain ⟨a, b⟩ := hr _ (List.getElem_mem hx)
  exact ⟨rss[q.toNat], List.getElem?_eq_getElem hq, by rw [e]; exact List.getElem?_eq_getElem hx, by rw [e]; exact a, by rw [e]; exact b⟩
theorem walkI_in {d : Int} {rss : List (List Int)} (W : Ways d rss) : ∀ {w : List Int} {q : Int}, WordOk d w → 0 ≤ q → q < rss.length → 0 ≤ walkI rss q w ∧ walkI rss q w < rss.length
  | [], q, _, h0, h1 => ⟨h0, h1⟩
  | x :: w, q, hw, h0, h1 => by
    obtain ⟨x0, x1⟩ := hw x List.mem_cons_self
    obtain ⟨_, _, _, a, b⟩ := step_in W h0 h1 x0 x1
    exact walkI_in W (w := w) (q := step rss q x) (fun y hy => hw y (List.mem_cons_of_mem _ hy)) a b
theorem walkI_snoc (rss : List (List Int)) (q : Int) (w : List Int) (x : Int) : walkI rss q (w ++ [x]) = step rss (walkI rss q w) x := by
  unfold walkI; rw [List.foldl_append]; rfl
theorem take_snoc {w : List Int} {i : Nat} {x : Int} (h : w[i]? = some x) : w.take (i + 1) = w.take i ++ [x] := by
  rw [List.take_add_one, h]; rfl
theorem WordOk.take {d : Int} {w : List Int} (h : WordOk d w) (i : Nat) : WordOk d (w.take i) := fun x hx => h x (List.mem_of_mem_take hx)
theorem waysBy_len (c d r : Int) : (waysBy c d r).length = r.toNat := by simp [waysBy]
theorem waysBy_ok (c : Int) {d r : Int} (hd : 0 ≤ d) (hr : 0 < r) : Ways d (waysBy c d r) := by
  refine ⟨fun row hrow => ?_⟩
  unfold waysBy at hrow
  obtain ⟨k, hk, rfl⟩ := List.mem_map.mp hrow
  refine ⟨?_, fun x hx => ?_⟩
  · simp [rowBy]; omega
  · unfold rowBy at hx
    obtain ⟨j, hj, rfl⟩ := List.mem_map.mp hx
    have h1 := draw_nn c (7 * (k : Int) + (j : Int)) hr
    have h2 := draw_lt c (7 * (k : Int) + (j : Int)) hr
    rw [waysBy_len]
    exact ⟨h1, by omega⟩
theorem lampsBy_len (c r : Int) : (lampsBy c r).length = r.toNat := by simp [lampsBy]
theorem map_range_snoc {α : Type} (f : Nat → α) (i : Nat) : (List.range (i + 1)).map f = (List.range i).map f ++ [f i] := by
  rw [List.range_succ, List.map_append]; rfl
end My
/-! ## Exceptions of the text's own classes: raised, passed on, caught -/
namespace L2
open PySem PySem.Spec PyProof.Rows



/-! ### raise -/
/-! ### f-strings of written texts and small ints: some text -/

end L2
namespace L2
open PySem PySem.W PySem.Spec PyProof.Rows PySem.Calls

end L2
namespace L2
open PySem PySem.Spec PyProof.Rows


end L2

/-! ### isinstance of a caught exception; try -/
namespace L2
open PySem PySem.Spec PyProof.Rows




end L2
/-! ### list.insert; facts of error classes; small helpers -/
namespace L2
open PySem PySem.Spec PyProof.Rows



end L2
/-! ### > of two int lists; list(d), list(d.values()) -/
namespace L2
open PySem PySem.Spec PyProof.Rows
open PySem.AutoSeq1 (wpAny_loadPart')
open PySem.MeetsSeq PySem.MeetsSeq2 PySem.MeetsSeq3 PySem.SeqAt
def lexGt : List Int → List Int → Bool
  | [], _ => false
  | _ :: _, [] => true
  | a :: r, b :: t => if a = b then lexGt r t else decide (b < a)


theorem kv_get {kvs : List (Key × V)} {vs : List (Key × Value)} (r : KV kvs vs) : ∀ {j : Nat} {k : Key} {u : Value}, vs[j]? = some (k, u) → ∃ x, kvs[j]? = some (k, x) ∧ RelV x u := by
  unfold KV at r
  induction r with
  | nil => intro j k u e; simp at e
  | @cons a b as bs h t ih =>
    intro j k u e
    cases j with
    | zero =>
      simp only [List.getElem?_cons_zero, Option.some.injEq] at e
      subst e
      obtain ⟨a1, a2⟩ := a
      have h1 : a1 = k := h.1
      subst h1
      exact ⟨a2, rfl, h.2⟩
    | succ j => simpa using ih (j := j) (by simpa using e)
theorem kv_len {kvs : List (Key × V)} {vs : List (Key × Value)} (r : KV kvs vs) : kvs.length = vs.length := Paired.length r
theorem vals_of : ∀ {xs : List V} {us : List Value}, xs.length = us.length → (∀ (j : Nat) (u : Value), us[j]? = some u → ∃ x, xs[j]? = some x ∧ RelV x u) → Vals xs us
  | [], [], _, _ => .nil
  | x :: xs, u :: us, hl, h => by
    obtain ⟨y, e, r⟩ := h 0 u rfl
    cases e
    exact .cons r (vals_of (by simpa using hl) fun j u e => h (j + 1) u e)
  | [], _ :: _, hl, _ => by simp at hl
  | _ :: _, [], hl, _ => by simp at hl
theorem Same.upd_fresh {H H' : Hp} {b : Addr} {o : HO} (h : Same H H') (hb : H b = Option.none) : Same H (upd H' b o) := fun c u e => by
  rw [upd_ne (ne_of_none e hb)]; exact h c u e
theorem Room.units1 {k : Nat} {A : Around} (r : Room k A) : A.units + 1 < cLine := by have := r.units; omega
section
variable {X : Cx}
theorem call_list_dict (hc : X.calm = true) : CallR X (.type "list") (fun xs H Q => ∃ p kvs, xs = [.ref p] ∧ H p = some (.dK kvs) ∧ ∀ l, H l = none → Q (.ref l) (upd H l (.lst (kvs.map fun kv => kV kv.1)))) := by
  intro pins s σ H xs us Q I r h
  obtain ⟨p, kvs, rfl, hH, q⟩ := h
  obtain ⟨u, rfl, rx⟩ := vals1 r
  cases rx
  obtain ⟨z, hd, vs, rel, dd⟩ := dk_of I.hok hH
  obtain ⟨ep, hat⟩ := dd.dictAt
  refine PySem.W.kdl_call (PySem.W.kdl_dict (knd := mixKind X.prog X.w) (kvs := vs) (ep := ep) hd) (I.ok.hd hc) hat (by rw [← kv_len rel]; exact z) fun h' tk acc' c' kp e hit => ?_
  refine ⟨.ref s.heap.objs.size, _, I.laid (t' := tk) kp (Nat.le_refl _) (show ObjOk X.prog X.w _ h' _ (.lst (kvs.map fun kv => kV kv.1)) from ⟨by rw [List.length_map]; exact z, acc'.toList, c', vals_of (by have h1 := hit.1; have h2 := kv_len rel; simp only [List.length_map, Array.length_toList]; omega) (fun j u hu => ?_), by simpa using e⟩), rfl, q _ I.fresh⟩
  obtain ⟨k, x, hx, hk⟩ := hit.2 j u (by rw [← Array.getElem?_toList]; exact hu)
  obtain ⟨y, hy, ry⟩ := kv_get rel hx
  refine ⟨kV k, by rw [List.getElem?_map, hy]; rfl, ?_⟩
  rcases keyIs_shape hk with ⟨i, t, rfl, rfl⟩ | ⟨x, t, rfl, rfl⟩
  · exact ⟨t, rfl⟩
  · exact ⟨t, rfl⟩
end

section
variable {σ : St} {H : Hp} {Q : VK} {to td ty tv te : TE} {D : Ends} {trs : List (TE × TE)} {K : PySem.W.Frag} {T : String} {r : V → List V → Hp → VK → Prop}
theorem r_dget (h : td σ H fun x H1 => ty σ H1 fun y H2 => ∃ a v, x = .ref a ∧ DGet H2 a y (some v) ∧ Q v H2) : tDGet td ty σ H Q := h
theorem r_dnotin (h : ty σ H fun y H1 => td σ H1 fun x H2 => ∃ a o, x = .ref a ∧ DGet H2 a y o ∧ Q (.bl (!o.isSome)) H2) : tDNotIn ty td σ H Q := h
theorem r_dput (h : tv σ H fun v H1 => td σ H1 fun x H2 => ty σ H2 fun y H3 => ∃ a H4, x = .ref a ∧ DPut H3 a y v H4 ∧ D.nx σ H4) : sDPut td ty tv D σ H := h
theorem r_dnew (h : ∀ p, H p = none → Q (.ref p) (upd H p (.dK []))) : tDNewK σ H Q := h
end
end L2
/-! ### breadth first: the least words -/
namespace My
open PySem L2
def later (a b : List Int) : Bool := if a.length ≠ b.length then decide (a.length > b.length) else lexGt a b
def slt (a b : List Int) : Prop := later b a = true
theorem lexGt_snoc : ∀ {a b : List Int} {x y : Int}, a.length = b.length → lexGt a b = true → lexGt (a ++ [x]) (b ++ [y]) = true
  | [], [], _, _, _, h => by simp [lexGt] at h
  | a :: r, b :: t, x, y, hl, h => by
    simp only [List.cons_append, lexGt] at h ⊢
    by_cases e : a = b
    · rw [if_pos e] at h ⊢; exact lexGt_snoc (by simpa using hl) h
    · rw [if_neg e] at h ⊢; exact h
  | [], _ :: _, _, _, hl, _ => by simp at hl
  | _ :: _, [], _, _, hl, _ => by simp at hl
theorem lexGt_last : ∀ {a : List Int} {x y : Int}, y < x → lexGt (a ++ [x]) (a ++ [y]) = true
  | [], x, y, h => by simp only [List.nil_append, lexGt]; rw [if_neg (by omega)]; simpa using h
  | a :: r, x, y, h => by rw [List.cons_append, List.cons_append]; unfold lexGt; rw [if_pos rfl]; exact lexGt_last h
theorem lexGt_irrefl : ∀ a : List Int, lexGt a a = false
  | [] => rfl
  | a :: r => by unfold lexGt; rw [if_pos rfl]; exact lexGt_irrefl r
theorem later_irrefl (a : List Int) : later a a = false := by unfold later; rw [if_neg (by simp)]; exact lexGt_irrefl a
theorem slt_nil (u : List Int) (x : Int) : slt [] (u ++ [x]) := by
  unfold slt later; rw [if_pos (by simp)]; simp
theorem slt_snoc {u v : List Int} (h : slt u v) (x y : Int) : slt (u ++ [x]) (v ++ [y]) := by
  unfold slt later at h ⊢
  by_cases e : v.length = u.length
  · rw [if_neg (by simp [e])] at h; rw [if_neg (by simp [e])]; exact lexGt_snoc e h
  · rw [if_pos e] at h; rw [if_pos (by simp [e])]; have := of_decide_eq_true h; simp; omega
theorem slt_last (u : List Int) {x y : Int} (h : x < y) : slt (u ++ [x]) (u ++ [y]) := by
  unfold slt later; rw [if_neg (by simp)]; exact lexGt_last h
abbrev Ent := Int × List Int
structure BI (d : Int) (rss : List (List Int)) (at' j : Nat) (L : List Ent) : Prop where
  head : L[0]? = some (0, [])
  ok : ∀ e ∈ L, WordOk d e.2 ∧ walkI rss 0 e.2 = e.1
  nd : (L.map Prod.fst).Nodup
  par : ∀ (k : Nat) (e : Ent), L[k]? = some e → k = 0 ∨ ∃ (p : Nat) (q : Ent) (x : Nat), p < k ∧ L[p]? = some q ∧ e.2 = q.2 ++ [(x : Int)] ∧ (p < at' ∨ (p = at' ∧ x < j))
  inc : ∀ (i k : Nat) (e f : Ent), i < k → L[i]? = some e → L[k]? = some f → slt e.2 f.2
  cov : ∀ (p : Nat) (q : Ent) (x : Nat), L[p]? = some q → (x : Int) < d → (p < at' ∨ (p = at' ∧ x < j)) → ∃ e ∈ L, e.1 = walkI rss 0 (q.2 ++ [(x : Int)]) ∧ (e.2 = q.2 ++ [(x : Int)] ∨ slt e.2 (q.2 ++ [(x : Int)]))
def hasKey (L : List Ent) (r : Int) : Bool := L.any fun e => decide (e.1 = r)
theorem hasKey_iff {L : List Ent} {r : Int} : hasKey L r = true ↔ ∃ e ∈ L, e.1 = r := by simp [hasKey]
def addDoor (L : List Ent) (w : List Int) (j : Nat) (r : Int) : List Ent := if hasKey L r = true then L else L ++ [(r, w ++ [(j : Int)])]
theorem BI.start (d : Int) (rss : List (List Int)) : BI d rss 0 0 [(0, [])] where
  head := rfl
  ok := fun e he => by rw [List.mem_singleton.mp he]; exact ⟨(fun x hx => by cases hx), rfl⟩
  nd := by simp
  par := fun k e h => by
    cases k with
    | zero => exact .inl rfl
    | succ k => simp at h
  inc := fun i k e f hik hi hk => by
    cases k with
    | zero => omega
    | succ k => simp at hk
  cov := fun p q x _ _ h => by omega
theorem BI.new {d : Int} {rss : List (List Int)} {at' j : Nat} {L : List Ent} (B : BI d rss at' j L) {q : Ent} (hq : L[at']? = some q) : ∀ e ∈ L, slt e.2 (q.2 ++ [(j : Int)]) := fun e he => by
  obtain ⟨k, hk⟩ := List.getElem?_of_mem he
  rcases B.par k e hk with rfl | ⟨p, q', x, hp, hq', hw, hx⟩
  · rw [B.head] at hk; cases hk; exact slt_nil _ _
  · rw [hw]
    rcases hx with hx | ⟨rfl, hx⟩
    · exact slt_snoc (B.inc p at' q' q hx hq' hq) _ _
    · rw [hq] at hq'; cases hq'; exact slt_last _ (by omega)
theorem BI.add {d : Int} {rss : List (List Int)} {at' j : Nat} {L : List Ent} (B : BI d rss at' j L) {q : Ent} (hq : L[at']? = some q) (hj : (j : Int) < d) {r : Int} (hr : r = step rss q.1 j) : BI d rss at' (j + 1) (addDoor L q.2 j r) := by
  have hqw := B.ok q (List.mem_of_getElem? hq)
  have hrw : walkI rss 0 (q.2 ++ [(j : Int)]) = r := by rw [walkI_snoc, hqw.2, hr]
  unfold addDoor
  by_cases hk : hasKey L r = true
  · rw [if_pos hk]
    refine ⟨B.head, B.ok, B.nd, fun k e h => ?_, B.inc, fun p q' x h1 h2 h3 => ?_⟩
    · rcases B.par k e h with h | ⟨p, q', x, a1, a2, a3, a4⟩
      · exact .inl h
      · exact .inr ⟨p, q', x, a1, a2, a3, by omega⟩
    · by_cases hn : p < at' ∨ (p = at' ∧ x < j)
      · exact B.cov p q' x h1 h2 hn
      · have e1 : p = at' := by omega
        have e2 : x = j := by omega
        subst e1 e2
        rw [hq] at h1; cases h1
        obtain ⟨e, he, hee⟩ := hasKey_iff.mp hk
        exact ⟨e, he, by rw [hrw]; exact hee, .inr (B.new hq e he)⟩
  · rw [if_neg hk]
    have hnk : ∀ e ∈ L, e.1 ≠ r := fun e he z => hk (hasKey_iff.mpr ⟨e, he, z⟩)
    have h0 : 0 < L.length := (List.getElem?_eq_some_iff.mp B.head).1
    have get_old : ∀ {k : Nat} {e : Ent}, L[k]? = some e → (L ++ [(r, q.2 ++ [(j : Int)])])[k]? = some e := fun {k e} h => by
      rw [List.getElem?_append_left (List.getElem?_eq_some_iff.mp h).1]; exact h
    have get_inv : ∀ {k : Nat} {e : Ent}, (L ++ [(r, q.2 ++ [(j : Int)])])[k]? = some e → (k < L.length ∧ L[k]? = some e) ∨ (k = L.length ∧ e = (r, q.2 ++ [(j : Int)])) := fun {k e} h => by
      rcases Nat.lt_or_ge k L.length with hl | hl
      · rw [List.getElem?_append_left hl] at h; exact .inl ⟨hl, h⟩
      · rw [List.getElem?_append_right hl] at h
        have hz : k - L.length = 0 := by
          have := (List.getElem?_eq_some_iff.mp h).1
          simp at this; omega
        rw [hz] at h
        simp at h
        exact .inr ⟨by omega, h.symm⟩
    refine ⟨get_old B.head, fun e he => ?_, ?_, fun k e h => ?_, fun i k e f hik hi hk => ?_, fun p q' x h1 h2 h3 => ?_⟩
    · rcases List.mem_append.mp he with he | he
      · exact B.ok e he
      · rw [List.mem_singleton.mp he]
        refine ⟨fun x hx => ?_, hrw⟩
        rcases List.mem_append.mp hx with hx | hx
        · exact hqw.1 x hx
        · rw [List.mem_singleton.mp hx]; omega
    · rw [List.map_append, List.map_singleton]
      refine List.nodup_append.mpr ⟨B.nd, by simp, fun a ha b hb => ?_⟩
      rw [List.mem_singleton.mp hb]
      obtain ⟨e, he, rfl⟩ := List.mem_map.mp ha
      exact hnk e he
    · rcases get_inv h with ⟨hl, h⟩ | ⟨hl, rfl⟩
      · rcases B.par k e h with h | ⟨p, q', x, a1, a2, a3, a4⟩
        · exact .inl h
        · exact .inr ⟨p, q', x, a1, get_old a2, a3, by omega⟩
      · exact .inr ⟨at', q, j, by rw [hl]; exact (List.getElem?_eq_some_iff.mp hq).1, get_old hq, rfl, by omega⟩
    · rcases get_inv hk with ⟨hl, hk⟩ | ⟨hl, rfl⟩
      · rcases get_inv hi with ⟨_, hi⟩ | ⟨hl', _⟩
        · exact B.inc i k e f hik hi hk
        · omega
      · rcases get_inv hi with ⟨_, hi⟩ | ⟨hl', _⟩
        · exact B.new hq e (List.mem_of_getElem? hi)
        · omega
    · rcases get_inv h1 with ⟨_, h4⟩ | ⟨hl, _⟩
      · clear h1
        have h1 := h4
        by_cases hn : p < at' ∨ (p = at' ∧ x < j)
        · obtain ⟨e, he, e1, e2⟩ := B.cov p q' x h1 h2 hn
          exact ⟨e, List.mem_append_left _ he, e1, e2⟩
        · have e1 : p = at' := by omega
          have e2 : x = j := by omega
          subst e1 e2
          rw [hq] at h1; cases h1
          exact ⟨(r, q.2 ++ [(x : Int)]), by simp, hrw.symm, .inl rfl⟩
      · have := (List.getElem?_eq_some_iff.mp hq).1
        omega
theorem BI.next {d : Int} {rss : List (List Int)} {at' : Nat} {L : List Ent} (B : BI d rss at' d.toNat L) : BI d rss (at' + 1) 0 L :=
  ⟨B.head, B.ok, B.nd, fun k e h => by
    rcases B.par k e h with h | ⟨p, q', x, a1, a2, a3, a4⟩
    · exact .inl h
    · exact .inr ⟨p, q', x, a1, a2, a3, by omega⟩, B.inc, fun p q x h1 h2 h3 => B.cov p q x h1 h2 (by omega)⟩
theorem nodup_le : ∀ (n : Nat) (l : List Nat), l.Nodup → (∀ x ∈ l, x < n) → l.length ≤ n
  | 0, l, _, h => by
    cases l with
    | nil => simp
    | cons a r => exact absurd (h a List.mem_cons_self) (Nat.not_lt_zero _)
  | n + 1, l, hn, h => by
    by_cases hm : n ∈ l
    · have h1 := nodup_le n (l.erase n) (hn.erase n) fun x hx => by
        have h2 := (hn.mem_erase_iff.mp hx)
        have := h x h2.2
        have := h2.1
        omega
      rw [List.length_erase_of_mem hm] at h1
      omega
    · have := nodup_le n l hn fun x hx => by
        have h1 := h x hx
        have h2 : x ≠ n := fun z => hm (z ▸ hx)
        omega
      omega
theorem BI.keys {d : Int} {rss : List (List Int)} {at' j : Nat} {L : List Ent} (B : BI d rss at' j L) (W : Ways d rss) (h0 : 0 < rss.length) : ∀ e ∈ L, 0 ≤ e.1 ∧ e.1 < rss.length := fun e he => by
  obtain ⟨h1, h2⟩ := B.ok e he
  rw [← h2]
  exact walkI_in W h1 (by omega) (by omega)
theorem BI.len {d : Int} {rss : List (List Int)} {at' j : Nat} {L : List Ent} (B : BI d rss at' j L) (W : Ways d rss) (h0 : 0 < rss.length) : L.length ≤ rss.length := by
  have h := nodup_le rss.length ((L.map Prod.fst).map Int.toNat) ?_ ?_
  · simpa using h
  · rw [List.nodup_iff_pairwise_ne, List.pairwise_map]
    refine (List.nodup_iff_pairwise_ne.mp B.nd).imp_of_mem fun {a b} ha hb hab => ?_
    obtain ⟨e, he, rfl⟩ := List.mem_map.mp ha
    obtain ⟨f, hf, rfl⟩ := List.mem_map.mp hb
    have h1 := B.keys W h0 e he
    have h2 := B.keys W h0 f hf
    omega
  · intro x hx
    obtain ⟨y, hy, rfl⟩ := List.mem_map.mp hx
    obtain ⟨e, he, rfl⟩ := List.mem_map.mp hy
    have h1 := B.keys W h0 e he
    omega
theorem BI.wlen {d : Int} {rss : List (List Int)} {at' j : Nat} {L : List Ent} (B : BI d rss at' j L) : ∀ (n k : Nat) (e : Ent), k ≤ n → L[k]? = some e → e.2.length ≤ k
  | 0, k, e, hk, h => by
    have : k = 0 := by omega
    subst this
    rw [B.head] at h; cases h; exact Nat.le_refl _
  | n + 1, k, e, hk, h => by
    rcases B.par k e h with rfl | ⟨p, q, x, hp, hq, hw, _⟩
    · rw [B.head] at h; cases h; exact Nat.le_refl _
    · have := B.wlen n p q (by omega) hq
      rw [hw, List.length_append, List.length_singleton]; omega
/-- the doors of one room -/
def rowK (L : List Ent) (w : List Int) (row : List Int) : Nat → List Ent
  | 0 => L
  | j + 1 => addDoor (rowK L w row j) w j (row.getD j 0)
def bfsAt (rss : List (List Int)) (L : List Ent) (k : Nat) : List Ent := match L[k]? with
  | none => L
  | some e => rowK L e.2 (rss.getD e.1.toNat []) (rss.getD e.1.toNat []).length
def bfsK (rss : List (List Int)) : Nat → List Ent
  | 0 => [(0, [])]
  | k + 1 => bfsAt rss (bfsK rss k) k
def bfs (rss : List (List Int)) : List Ent := bfsK rss rss.length
theorem addDoor_get {L : List Ent} {w : List Int} {j : Nat} {r : Int} {k : Nat} {e : Ent} (h : L[k]? = some e) : (addDoor L w j r)[k]? = some e := by
  unfold addDoor
  split
  · exact h
  · rw [List.getElem?_append_left (List.getElem?_eq_some_iff.mp h).1]; exact h
theorem rowK_get {L : List Ent} {w row : List Int} {k : Nat} {e : Ent} (h : L[k]? = some e) : ∀ j, (rowK L w row j)[k]? = some e
  | 0 => h
  | j + 1 => addDoor_get (rowK_get h j)
theorem BI.rowK {d : Int} {rss : List (List Int)} {at' : Nat} {L : List Ent} (B : BI d rss at' 0 L) (W : Ways d rss) (h0 : 0 < rss.length) {q : Ent} (hq : L[at']? = some q) : ∀ {j : Nat}, (j : Int) ≤ d → BI d rss at' j (My.rowK L q.2 (rss.getD q.1.toNat []) j)
  | 0, _ => B
  | j + 1, h => (BI.rowK B W h0 hq (by omega)).add (rowK_get hq j) (by omega) rfl
theorem rowlen {d : Int} {rss : List (List Int)} (W : Ways d rss) {r : Int} (h0 : 0 ≤ r) (h1 : r < rss.length) : ((rss.getD r.toNat []).length : Int) = d := by
  have hq : r.toNat < rss.length := by omega
  rw [List.getD_eq_getElem?_getD, List.getElem?_eq_getElem hq, Option.getD_some]
  exact (W.row _ (List.getElem_mem hq)).1
theorem bfsK_ok {d : Int} {rss : List (List Int)} (W : Ways d rss) (h0 : 0 < rss.length) : ∀ k, k ≤ (bfsK rss k).length → BI d rss k 0 (bfsK rss k)
  | 0, _ => BI.start d rss
  | k + 1, h => by
    unfold bfsK bfsAt at h ⊢
    cases e : (bfsK rss k)[k]? with
    | none =>
      rw [e] at h
      have := List.getElem?_eq_none_iff.mp e
      dsimp only at h
      omega
    | some q =>
      dsimp only
      have hk : k < (bfsK rss k).length := (List.getElem?_eq_some_iff.mp e).1
      have B := bfsK_ok W h0 k (by omega)
      have hb := B.keys W h0 q (List.mem_of_getElem? e)
      have hl := rowlen W hb.1 hb.2
      have B2 := B.rowK W h0 e (j := (rss.getD q.1.toNat []).length) (by omega)
      have e2 : (rss.getD q.1.toNat []).length = d.toNat := by omega
      rw [e2] at B2 ⊢
      exact B2.next
theorem bfsK_stop {rss : List (List Int)} {k : Nat} (h : (bfsK rss k).length ≤ k) : ∀ m, bfsK rss (k + m) = bfsK rss k
  | 0 => rfl
  | m + 1 => by
    have ih := bfsK_stop h m
    show bfsAt rss (bfsK rss (k + m)) (k + m) = _
    rw [ih]
    unfold bfsAt
    rw [List.getElem?_eq_none_iff.mpr (by omega)]
theorem bfsK_end {d : Int} {rss : List (List Int)} (W : Ways d rss) (h0 : 0 < rss.length) {k : Nat} (h : k = (bfsK rss k).length) : bfs rss = bfsK rss k := by
  have B := bfsK_ok W h0 k (by omega)
  have := B.len W h0
  unfold bfs
  have e : rss.length = k + (rss.length - k) := by omega
  rw [e]
  exact bfsK_stop (by omega) _
theorem bfsK_grow {rss : List (List Int)} {k : Nat} : (bfsK rss k).length ≤ (bfsK rss (k + 1)).length := by
  show _ ≤ (bfsAt rss (bfsK rss k) k).length
  unfold bfsAt
  have add : ∀ (L : List Ent) w j r, L.length ≤ (addDoor L w j r).length := fun L w j r => by
    unfold addDoor; split
    · exact Nat.le_refl _
    · simp
  have row : ∀ (L : List Ent) w row j, L.length ≤ (rowK L w row j).length := fun L w row j => by
    induction j with
    | zero => exact Nat.le_refl _
    | succ j ih => exact Nat.le_trans ih (add _ _ _ _)
  split
  · exact Nat.le_refl _
  · exact row _ _ _ _
theorem bfs_ok {d : Int} {rss : List (List Int)} (W : Ways d rss) (h0 : 0 < rss.length) : BI d rss (bfs rss).length 0 (bfs rss) := by
  have key : ∀ k, (k ≤ (bfsK rss k).length) ∨ ∃ m, m ≤ k ∧ m = (bfsK rss m).length := fun k => by
    induction k with
    | zero => left; exact Nat.zero_le _
    | succ k ih =>
      rcases ih with ih | ⟨m, hm, e⟩
      · rcases Nat.lt_or_ge k (bfsK rss k).length with h | h
        · left; have := bfsK_grow (rss := rss) (k := k); omega
        · right; exact ⟨k, by omega, by omega⟩
      · right; exact ⟨m, by omega, e⟩
  rcases key rss.length with h | ⟨m, hm, e⟩
  · have B := bfsK_ok W h0 _ h
    have := B.len W h0
    have e : rss.length = (bfsK rss rss.length).length := by omega
    have e2 := bfsK_end W h0 e
    have e3 : (bfs rss).length = rss.length := by rw [e2]; omega
    rw [e3, e2]; exact B
  · have e2 := bfsK_end W h0 e
    rw [e2, ← e]
    exact bfsK_ok W h0 m (by omega)
end My
/-! ### list comprehensions whose block has cells of its own -/
namespace L2
open PySem PySem.Spec PyProof.Rows


end L2
/-! ### a body that begins with a dict display: boxed, so that nothing runs it while it is read -/
namespace L2
open PySem PySem.Spec PyProof.Rows
structure PSsO (X : Cx) (b : List Stmt) (t : TS) : Prop where
  out : PSs X b t
theorem exO {X : Cx} {b : List Stmt} {t : TS} {R : TS → Prop} (h : PSsO X b t) (r : R t) : ∃ t, PSs X b t ∧ R t := ⟨t, h.out, r⟩
theorem pssO_consD {X : Cx} {i : Nat} {x : Str} {k v : Expr} {pos pos' spos : Pos} {tk tv : TE} {rest : List Stmt} {u : TS} (hN : X.N.Nodup) (hi : X.N[i]? = some x) (hx : Loc X.env.scope x) (hk : PE X k tk) (hv : PE X v tv) (h2 : PSs X rest u)
    (hf : X.fn x = true ∨ X.env.scope.names.lookup x = some .local := by first | exact .inl rfl | exact .inr rfl | assumption)
    (hsw : swapsWith (.Dict [some k] [v] pos) (some (.Name x pos')) spos.line X.env = pure false := by rfl) :
    PSsO X (.Assign [.Name x pos'] (.Dict [some k] [v] pos) spos :: rest) (tSeq (tAsg (tDisp [(tk, tv)]) (gName i)) u) :=
  ⟨pss_cons (ps_set hN hi hx (pe_disp (pps_cons hk hv pps_nil) rfl rfl (by simp) (show 1 ≤ 15 by decide))) h2⟩
end L2
/-! ### breadth first over any kind of key -/
namespace My
open PySem L2
theorem lexGt_trans : ∀ {a b c : List Int}, lexGt a b = true → lexGt b c = true → lexGt a c = true
  | [], _, _, h, _ => by simp [lexGt] at h
  | _ :: _, [], _, _, h => by simp [lexGt] at h
  | _ :: _, _ :: _, [], _, _ => rfl
  | a :: r, b :: t, c :: u, h1, h2 => by
    unfold lexGt at h1 h2 ⊢
    by_cases e1 : a = b
    · rw [if_pos e1] at h1
      by_cases e2 : b = c
      · rw [if_pos e2] at h2; rw [if_pos (e1.trans e2)]; exact lexGt_trans h1 h2
      · rw [if_neg e2] at h2; rw [if_neg (by rw [e1]; exact e2), e1]; exact h2
    · rw [if_neg e1] at h1
      have h1 := of_decide_eq_true h1
      by_cases e2 : b = c
      · rw [← e2, if_neg e1]; exact decide_eq_true h1
      · rw [if_neg e2] at h2
        have h2 := of_decide_eq_true h2
        rw [if_neg (by omega)]; exact decide_eq_true (by omega)
theorem slt_trans {a b c : List Int} (h1 : slt a b) (h2 : slt b c) : slt a c := by
  unfold slt later at h1 h2 ⊢
  by_cases e1 : b.length = a.length
  · rw [if_neg (by simp [e1])] at h1
    by_cases e2 : c.length = b.length
    · rw [if_neg (by simp [e2])] at h2; rw [if_neg (by simp [e1, e2])]; exact lexGt_trans h2 h1
    · rw [if_pos e2] at h2; rw [if_pos (by omega)]; have := of_decide_eq_true h2; exact decide_eq_true (by omega)
  · rw [if_pos e1] at h1
    have h1 := of_decide_eq_true h1
    by_cases e2 : c.length = b.length
    · rw [if_pos (by omega)]; exact decide_eq_true (by omega)
    · rw [if_pos e2] at h2; have h2 := of_decide_eq_true h2; rw [if_pos (by omega)]; exact decide_eq_true (by omega)
theorem slt_irrefl (a : List Int) : ¬ slt a a := by unfold slt; rw [later_irrefl]; decide
theorem slt_asymm {a b : List Int} (h : slt a b) : ¬ slt b a := fun h2 => slt_irrefl a (slt_trans h h2)
theorem slt_prefix (u : List Int) (x : Int) : slt u (u ++ [x]) := by
  unfold slt later; rw [if_pos (by simp)]; exact decide_eq_true (by simp)
/-- a = b or a ahead of b -/
def sle (a b : List Int) : Prop := a = b ∨ slt a b
theorem sle_slt {a b c : List Int} (h1 : sle a b) (h2 : slt b c) : slt a c := by
  rcases h1 with rfl | h1
  · exact h2
  · exact slt_trans h1 h2
theorem sle_trans {a b c : List Int} (h1 : sle a b) (h2 : sle b c) : sle a c := by
  rcases h2 with rfl | h2
  · exact h1
  · exact .inr (sle_slt h1 h2)
theorem sle_snoc {a b : List Int} (h : sle a b) (x : Int) : sle (a ++ [x]) (b ++ [x]) := by
  rcases h with rfl | h
  · exact .inl rfl
  · exact .inr (slt_snoc h x x)
section
variable {κ : Type} [DecidableEq κ]
def walkG (st : κ → Int → κ) (k0 : κ) (w : List Int) : κ := w.foldl st k0
theorem walkG_snoc (st : κ → Int → κ) (k0 : κ) (w : List Int) (x : Int) : walkG st k0 (w ++ [x]) = st (walkG st k0 w) x := by
  unfold walkG; rw [List.foldl_append]; rfl
structure BIG (st : κ → Int → κ) (k0 : κ) (d : Int) (at' j : Nat) (L : List (κ × List Int)) : Prop where
  head : L[0]? = some (k0, [])
  ok : ∀ e ∈ L, WordOk d e.2 ∧ walkG st k0 e.2 = e.1
  nd : (L.map Prod.fst).Nodup
  par : ∀ (k : Nat) (e : (κ × List Int)), L[k]? = some e → k = 0 ∨ ∃ (p : Nat) (q : (κ × List Int)) (x : Nat), p < k ∧ L[p]? = some q ∧ e.2 = q.2 ++ [(x : Int)] ∧ (p < at' ∨ (p = at' ∧ x < j))
  inc : ∀ (i k : Nat) (e f : (κ × List Int)), i < k → L[i]? = some e → L[k]? = some f → slt e.2 f.2
  cov : ∀ (p : Nat) (q : (κ × List Int)) (x : Nat), L[p]? = some q → (x : Int) < d → (p < at' ∨ (p = at' ∧ x < j)) → ∃ e ∈ L, e.1 = walkG st k0 (q.2 ++ [(x : Int)]) ∧ (e.2 = q.2 ++ [(x : Int)] ∨ slt e.2 (q.2 ++ [(x : Int)]))
def hasKeyG (L : List (κ × List Int)) (r : κ) : Bool := L.any fun e => decide (e.1 = r)
theorem hasKeyG_iff {L : List (κ × List Int)} {r : κ} : hasKeyG L r = true ↔ ∃ e ∈ L, e.1 = r := by simp [hasKeyG]
def addDoorG (L : List (κ × List Int)) (w : List Int) (j : Nat) (r : κ) : List (κ × List Int) := if hasKeyG L r = true then L else L ++ [(r, w ++ [(j : Int)])]
theorem BIG.start (st : κ → Int → κ) (k0 : κ) (d : Int) : BIG st k0 d 0 0 [(k0, [])] where
  head := rfl
  ok := fun e he => by rw [List.mem_singleton.mp he]; exact ⟨(fun x hx => by cases hx), rfl⟩
  nd := by simp
  par := fun k e h => by
    cases k with
    | zero => exact .inl rfl
    | succ k => simp at h
  inc := fun i k e f hik hi hk => by
    cases k with
    | zero => omega
    | succ k => simp at hk
  cov := fun p q x _ _ h => by omega
theorem BIG.new {st : κ → Int → κ} {k0 : κ} {d : Int} {at' j : Nat} {L : List (κ × List Int)} (B : BIG st k0 d at' j L) {q : (κ × List Int)} (hq : L[at']? = some q) : ∀ e ∈ L, slt e.2 (q.2 ++ [(j : Int)]) := fun e he => by
  obtain ⟨k, hk⟩ := List.getElem?_of_mem he
  rcases B.par k e hk with rfl | ⟨p, q', x, hp, hq', hw, hx⟩
  · rw [B.head] at hk; cases hk; exact slt_nil _ _
  · rw [hw]
    rcases hx with hx | ⟨rfl, hx⟩
    · exact slt_snoc (B.inc p at' q' q hx hq' hq) _ _
    · rw [hq] at hq'; cases hq'; exact slt_last _ (by omega)
theorem BIG.add {st : κ → Int → κ} {k0 : κ} {d : Int} {at' j : Nat} {L : List (κ × List Int)} (B : BIG st k0 d at' j L) {q : (κ × List Int)} (hq : L[at']? = some q) (hj : (j : Int) < d) {r : κ} (hr : r = st q.1 j) : BIG st k0 d at' (j + 1) (addDoorG L q.2 j r) := by
  have hqw := B.ok q (List.mem_of_getElem? hq)
  have hrw : walkG st k0 (q.2 ++ [(j : Int)]) = r := by rw [walkG_snoc, hqw.2, hr]
  unfold addDoorG
  by_cases hk : hasKeyG L r = true
  · rw [if_pos hk]
    refine ⟨B.head, B.ok, B.nd, fun k e h => ?_, B.inc, fun p q' x h1 h2 h3 => ?_⟩
    · rcases B.par k e h with h | ⟨p, q', x, a1, a2, a3, a4⟩
      · exact .inl h
      · exact .inr ⟨p, q', x, a1, a2, a3, by omega⟩
    · by_cases hn : p < at' ∨ (p = at' ∧ x < j)
      · exact B.cov p q' x h1 h2 hn
      · have e1 : p = at' := by omega
        have e2 : x = j := by omega
        subst e1 e2
        rw [hq] at h1; cases h1
        obtain ⟨e, he, hee⟩ := hasKeyG_iff.mp hk
        exact ⟨e, he, by rw [hrw]; exact hee, .inr (B.new hq e he)⟩
  · rw [if_neg hk]
    have hnk : ∀ e ∈ L, e.1 ≠ r := fun e he z => hk (hasKeyG_iff.mpr ⟨e, he, z⟩)
    have h0 : 0 < L.length := (List.getElem?_eq_some_iff.mp B.head).1
    have get_old : ∀ {k : Nat} {e : (κ × List Int)}, L[k]? = some e → (L ++ [(r, q.2 ++ [(j : Int)])])[k]? = some e := fun {k e} h => by
      rw [List.getElem?_append_left (List.getElem?_eq_some_iff.mp h).1]; exact h
    have get_inv : ∀ {k : Nat} {e : (κ × List Int)}, (L ++ [(r, q.2 ++ [(j : Int)])])[k]? = some e → (k < L.length ∧ L[k]? = some e) ∨ (k = L.length ∧ e = (r, q.2 ++ [(j : Int)])) := fun {k e} h => by
      rcases Nat.lt_or_ge k L.length with hl | hl
      · rw [List.getElem?_append_left hl] at h; exact .inl ⟨hl, h⟩
      · rw [List.getElem?_append_right hl] at h
        have hz : k - L.length = 0 := by
          have := (List.getElem?_eq_some_iff.mp h).1
          simp at this; omega
        rw [hz] at h
        simp at h
        exact .inr ⟨by omega, h.symm⟩
    refine ⟨get_old B.head, fun e he => ?_, ?_, fun k e h => ?_, fun i k e f hik hi hk => ?_, fun p q' x h1 h2 h3 => ?_⟩
    · rcases List.mem_append.mp he with he | he
      · exact B.ok e he
      · rw [List.mem_singleton.mp he]
        refine ⟨fun x hx => ?_, hrw⟩
        rcases List.mem_append.mp hx with hx | hx
        · exact hqw.1 x hx
        · rw [List.mem_singleton.mp hx]; omega
    · rw [List.map_append, List.map_singleton]
      refine List.nodup_append.mpr ⟨B.nd, by simp, fun a ha b hb => ?_⟩
      rw [List.mem_singleton.mp hb]
      obtain ⟨e, he, rfl⟩ := List.mem_map.mp ha
      exact hnk e he
    · rcases get_inv h with ⟨hl, h⟩ | ⟨hl, rfl⟩
      · rcases B.par k e h with h | ⟨p, q', x, a1, a2, a3, a4⟩
        · exact .inl h
        · exact .inr ⟨p, q', x, a1, get_old a2, a3, by omega⟩
      · exact .inr ⟨at', q, j, by rw [hl]; exact (List.getElem?_eq_some_iff.mp hq).1, get_old hq, rfl, by omega⟩
    · rcases get_inv hk with ⟨hl, hk⟩ | ⟨hl, rfl⟩
      · rcases get_inv hi with ⟨_, hi⟩ | ⟨hl', _⟩
        · exact B.inc i k e f hik hi hk
        · omega
      · rcases get_inv hi with ⟨_, hi⟩ | ⟨hl', _⟩
        · exact B.new hq e (List.mem_of_getElem? hi)
        · omega
    · rcases get_inv h1 with ⟨_, h4⟩ | ⟨hl, _⟩
      · clear h1
        have h1 := h4
        by_cases hn : p < at' ∨ (p = at' ∧ x < j)
        · obtain ⟨e, he, e1, e2⟩ := B.cov p q' x h1 h2 hn
          exact ⟨e, List.mem_append_left _ he, e1, e2⟩
        · have e1 : p = at' := by omega
          have e2 : x = j := by omega
          subst e1 e2
          rw [hq] at h1; cases h1
          exact ⟨(r, q.2 ++ [(x : Int)]), by simp, hrw.symm, .inl rfl⟩
      · have := (List.getElem?_eq_some_iff.mp hq).1
        omega
theorem BIG.next {st : κ → Int → κ} {k0 : κ} {d : Int} {at' : Nat} {L : List (κ × List Int)} (B : BIG st k0 d at' d.toNat L) : BIG st k0 d (at' + 1) 0 L :=
  ⟨B.head, B.ok, B.nd, fun k e h => by
    rcases B.par k e h with h | ⟨p, q', x, a1, a2, a3, a4⟩
    · exact .inl h
    · exact .inr ⟨p, q', x, a1, a2, a3, by omega⟩, B.inc, fun p q x h1 h2 h3 => B.cov p q x h1 h2 (by omega)⟩
theorem BIG.wlen {st : κ → Int → κ} {k0 : κ} {d : Int} {at' j : Nat} {L : List (κ × List Int)} (B : BIG st k0 d at' j L) : ∀ (n k : Nat) (e : (κ × List Int)), k ≤ n → L[k]? = some e → e.2.length ≤ k
  | 0, k, e, hk, h => by
    have : k = 0 := by omega
    subst this
    rw [B.head] at h; cases h; exact Nat.le_refl _
  | n + 1, k, e, hk, h => by
    rcases B.par k e h with rfl | ⟨p, q, x, hp, hq, hw, _⟩
    · rw [B.head] at h; cases h; exact Nat.le_refl _
    · have := B.wlen n p q (by omega) hq
      rw [hw, List.length_append, List.length_singleton]; omega

/-- all words ahead of the k-th one lead to keys that stand ahead of it -/
theorem BIG.below {st : κ → Int → κ} {k0 : κ} {d : Int} {at' j : Nat} {L : List (κ × List Int)} (B : BIG st k0 d at' j L) (e : κ × List Int) (he : L[at']? = some e) :
    ∀ (n : Nat) (w : List Int), w.length ≤ n → WordOk d w → slt w e.2 → ∃ (i : Nat) (f : κ × List Int), i < at' ∧ L[i]? = some f ∧ f.1 = walkG st k0 w ∧ sle f.2 w := by
  have ahead : ∀ {f : κ × List Int}, f ∈ L → slt f.2 e.2 → ∃ i, i < at' ∧ L[i]? = some f := fun {f} hf hs => by
    obtain ⟨i, hi⟩ := List.getElem?_of_mem hf
    rcases Nat.lt_or_ge i at' with h | h
    · exact ⟨i, h, hi⟩
    · rcases Nat.eq_or_lt_of_le h with h | h
      · subst h; rw [he] at hi; cases hi; exact absurd hs (slt_irrefl _)
      · exact absurd hs (slt_asymm (B.inc at' i e f h he hi))
  have base : slt [] e.2 → ∃ (i : Nat) (f : κ × List Int), i < at' ∧ L[i]? = some f ∧ f.1 = walkG st k0 [] ∧ sle f.2 [] := fun hs => by
    obtain ⟨i, hi, hL⟩ := ahead (List.mem_of_getElem? B.head) hs
    exact ⟨i, _, hi, hL, rfl, .inl rfl⟩
  intro n
  induction n with
  | zero =>
    intro w hw ok hs
    have : w = [] := List.length_eq_zero_iff.mp (by omega)
    subst this
    exact base hs
  | succ n ih =>
    intro w hw ok hs
    by_cases hn : w = []
    · subst hn; exact base hs
    · obtain ⟨u, x, rfl⟩ : ∃ u x, w = u ++ [x] := ⟨w.dropLast, w.getLast hn, (List.dropLast_concat_getLast hn).symm⟩
      have oku : WordOk d u := fun y hy => ok y (List.mem_append_left _ hy)
      obtain ⟨x0, x1⟩ := ok x (by simp)
      obtain ⟨i, f, hi, hL, hk, hle⟩ := ih u (by simp at hw; omega) oku (slt_trans (slt_prefix u x) hs)
      obtain ⟨g, hg, g1, g2⟩ := B.cov i f x.toNat hL (by omega) (.inl hi)
      rw [Int.toNat_of_nonneg x0] at g1 g2
      have g2 : sle g.2 (u ++ [x]) := sle_trans g2 (sle_snoc hle x)
      obtain ⟨m, hm, hLm⟩ := ahead hg (sle_slt g2 hs)
      refine ⟨m, g, hm, hLm, ?_, g2⟩
      rw [g1, walkG_snoc, walkG_snoc, (B.ok f (List.mem_of_getElem? hL)).2, hk]
/-- at the end: all keys -/
theorem BIG.all {st : κ → Int → κ} {k0 : κ} {d : Int} {L : List (κ × List Int)} (B : BIG st k0 d L.length 0 L) : ∀ (n : Nat) (w : List Int), w.length ≤ n → WordOk d w → ∃ f ∈ L, f.1 = walkG st k0 w ∧ sle f.2 w := by
  intro n
  induction n with
  | zero =>
    intro w hw ok
    have : w = [] := List.length_eq_zero_iff.mp (by omega)
    subst this
    exact ⟨_, List.mem_of_getElem? B.head, rfl, .inl rfl⟩
  | succ n ih =>
    intro w hw ok
    by_cases hn : w = []
    · subst hn; exact ⟨_, List.mem_of_getElem? B.head, rfl, .inl rfl⟩
    · obtain ⟨u, x, rfl⟩ : ∃ u x, w = u ++ [x] := ⟨w.dropLast, w.getLast hn, (List.dropLast_concat_getLast hn).symm⟩
      have oku : WordOk d u := fun y hy => ok y (List.mem_append_left _ hy)
      obtain ⟨x0, x1⟩ := ok x (by simp)
      obtain ⟨f, hf, hk, hle⟩ := ih u (by simp at hw; omega) oku
      obtain ⟨i, hi⟩ := List.getElem?_of_mem hf
      obtain ⟨g, hg, g1, g2⟩ := B.cov i f x.toNat hi (by omega) (.inl (List.getElem?_eq_some_iff.mp hi).1)
      rw [Int.toNat_of_nonneg x0] at g1 g2
      refine ⟨g, hg, ?_, sle_trans g2 (sle_snoc hle x)⟩
      rw [g1, walkG_snoc, walkG_snoc, (B.ok f hf).2, hk]
end
end My
/-! ### {(a, b): v}: one pair, the key a tuple -/
namespace L2
open PySem PySem.Spec PyProof.Rows
def tDispT1 (tk tv : TE) : TE := fun σ H Q => ∀ p, H p = none → tk σ (upd H p (.dT [])) fun x H1 => tv σ H1 fun y H2 => ∃ b ks, x = .ref b ∧ H2 b = some (.tup (ks.map kV)) ∧ H2 p = some (.dT []) ∧ Q (.ref p) (upd H2 p (.dT [(ks, y)]))
theorem pe_dispT1 {X : Cx} {pos : Pos} {k v : Expr} {tk tv : TE} (hu : X.A.units + 1 < cLine) (hk : PE X k tk) (hv : PE X v tv) : PE X (.Dict [some k] [v] pos) (tDispT1 tk tv) := by
  intro pins s σ H Q I q
  rw [arm_eval_Dict, zip_pairTrees [some k] [v] X.env pos rfl rfl, dictDisplay_pairs _ (by simp [pairTrees]) (by simp [pairTrees])]
  have hn := I.hok.fresh (Nat.le_refl s.heap.objs.size)
  have I1 := I.laid (a := s.heap.objs.size) (o := .dT []) (h' := s.heap.push { cls := .type "dict", data := .dict #[] }) (t' := s.toks) (fun _ _ q => Heap.get?_push_of_some _ q) (Nat.le_refl _) (dt_empty s.heap I.big)
  refine wpAny_bind (wpAny_standAt (wpAny_bind ?_))
  unfold subDict
  refine wpAny_bind (wpAny_alloc ?_)
  refine wpAny_bind (wpAny_holding ?_)
  rw [if_pos (by simp [pairTrees])]
  refine wpAny_bind (evalPairs_cons (thn (hk pins _ σ _ _ I1 (q _ hn)) fun kv s1 ⟨x, H1, I2, rx, q1⟩ => ?_))
  refine wpAny_bind (thn (hv pins s1 σ H1 _ I2 q1) fun vv s2 ⟨y, H2, I3, ry, b, ks, ex, hb, hp, q2⟩ => wpAny_bind (wpAny_standAt (wpAny_pure (evalPairs_nil ?_))))
  subst ex
  cases (show kv = Value.ref b from rx)
  obtain ⟨z, hd, xs, rel, dd⟩ := dt_of I3.hok hp
  cases rel
  refine wpAny_holding (wpAny_bind ?_)
  rw [List.forIn_cons]
  refine wpAny_bind (wpAny_bind (wpAny_dictSet_heap (hsz := Nat.zero_le _) ?room (key_of I3.hok hb) dd fun h' dd' hs => ?fin))
  case fin =>
    refine wpAny_pure ?_
    dsimp only
    rw [List.forIn_nil]
    refine wpAny_pure (wpAny_pure (wpAny_pure (wpAny_pure ?_)))
    obtain ⟨q', es, ep, hq, h2, h3, h4, _, h5⟩ := dd'
    have hI := d_write (t' := s2.toks + (tupleKind (mixKind X.prog X.w)).draws ks) I3 (by rw [hp]; exact True.intro) hs ⟨q', hq⟩ (ob := .dT [(ks, y)]) ⟨(show 1 ≤ sizeLine by decide), hd, [(ks, b, vv)], .cons ⟨rfl, by rw [upd_ne (ne_of hb hp (fun z => nomatch z))]; exact hb, ry⟩ .nil, q', es, ep, hq, h2, h3, h4, h5⟩
    exact ⟨.ref s.heap.objs.size, _, hI, rfl, q2⟩
  case room => exact (show X.A.units < cLine by omega)
theorem pssO_cons {X : Cx} {st : Stmt} {rest : List Stmt} {t u : TS} (h1 : PS X st t) (h2 : PSsO X rest u) : PSsO X (st :: rest) (tSeq t u) := ⟨pss_cons h1 h2.out⟩
theorem pssO_consT {X : Cx} {i : Nat} {x : Str} {k v : Expr} {pos pos' spos : Pos} {tk tv : TE} {rest : List Stmt} {u : TS} (hu : X.A.units + 1 < cLine) (hN : X.N.Nodup) (hi : X.N[i]? = some x) (hx : Loc X.env.scope x) (hk : PE X k tk) (hv : PE X v tv) (h2 : PSs X rest u)
    (hf : X.fn x = true ∨ X.env.scope.names.lookup x = some .local := by first | exact .inl rfl | exact .inr rfl | assumption)
    (hsw : swapsWith (.Dict [some k] [v] pos) (some (.Name x pos')) spos.line X.env = pure false := by rfl) :
    PSsO X (.Assign [.Name x pos'] (.Dict [some k] [v] pos) spos :: rest) (tSeq (tAsg (tDispT1 tk tv) (gName i)) u) :=
  ⟨pss_cons (ps_set hN hi hx (pe_dispT1 hu hk hv)) h2⟩
section
variable {σ : St} {H : Hp} {Q : VK} {tk tv : TE}
theorem r_dispT (h : ∀ p, H p = none → tk σ (upd H p (.dT [])) fun x H1 => tv σ H1 fun y H2 => ∃ b ks, x = .ref b ∧ H2 b = some (.tup (ks.map kV)) ∧ H2 p = some (.dT []) ∧ Q (.ref p) (upd H2 p (.dT [(ks, y)]))) : tDispT1 tk tv σ H Q := h
end
end L2
/-! ### a truth in an f-string; the pairs of a dict, walked while the dict is held fast -/
namespace L2
open PySem PySem.Spec PyProof.Rows
/-! the view -/

/-! its iterator, by the dict's bare entries -/

/-! held fast -/


/-! range(n) as a value, list of it -/
section
variable {X : Cx} (K : PySem.W.Frag)
theorem call_rangeV : CallR X (.type "range") (fun xs H Q => ∃ n : Int, xs = [.int n] ∧ ∀ p, H p = none → Q (.ref p) (upd H p (.rng 0 n))) := by
  intro pins s σ H xs us Q I r h
  obtain ⟨n, rfl, q⟩ := h
  obtain ⟨u, rfl, rx⟩ := vals1 r
  obtain ⟨t, rfl⟩ := rx
  refine call_range_1 ?_
  refine ⟨.ref s.heap.objs.size, _, I.laid (t' := s.toks + 1 + 1) (fun _ _ q => Heap.get?_push_of_some _ q) (Nat.le_refl _) ?_, rfl, q _ I.fresh⟩
  exact ⟨_, _, _, Heap.get?_push_size _ rfl⟩
theorem call_list_rng (hc : X.calm = true) : CallR X (.type "list") (fun xs H Q => ∃ p n, xs = [.ref p] ∧ H p = some (.rng 0 n) ∧ 0 ≤ n ∧ n ≤ 100000 ∧ ∀ l, H l = none → Q (.ref l) (upd H l (.lst ((List.range n.toNat).map fun (i : Nat) => V.int (i : Int))))) := by
  intro pins s σ H xs us Q I r h
  obtain ⟨p, n, rfl, hp, h0, h1, q⟩ := h
  obtain ⟨u, rfl, rx⟩ := vals1 r
  cases rx
  obtain ⟨t, u, v, hr⟩ := (show ObjOk X.prog X.w H s.heap p (.rng 0 n) from I.hok p _ hp)
  refine call_list_range (n := n.toNat) (I.ok.hd hc) hr (small_one (by decide) (by decide) (by omega) (by omega)) (by rw [rangeSize_one]; split <;> omega) (by omega) fun h' tk acc c kp e hit => ?_
  have hl : n.toNat ≤ sizeLine := Nat.le_trans (show _ ≤ 100000 by omega) (by decide)
  refine ⟨.ref s.heap.objs.size, _, I.laid (t' := tk) kp (Nat.le_refl _) (show ObjOk X.prog X.w _ h' _ (.lst ((List.range n.toNat).map fun (i : Nat) => V.int (i : Int))) from ⟨by simpa using hl, acc.toList, c, vals_of (by have := hit.1; simp [Array.length_toList]; omega) (fun j u hu => ?_), by simpa using e⟩), rfl, q _ I.fresh⟩
  obtain ⟨hj, _⟩ := List.getElem?_eq_some_iff.mp hu
  obtain ⟨tk', e'⟩ := hit.2 j u (by rw [← Array.getElem?_toList]; exact hu)
  have hjn : j < n.toNat := by rw [← hit.1]; simpa using hj
  refine ⟨.int (j : Int), by rw [List.getElem?_map, List.getElem?_range hjn]; rfl, tk', ?_⟩
  rw [e']; congr 1; omega
end
end L2
namespace My
end My
/-! ### list comprehensions with one test -/
namespace PySem
open PySem.Spec PyProof.Rows

end PySem
namespace L2
open PySem PySem.Spec PyProof.Rows

end L2
/-! ### try around one call whose value is stored: the names stand as before where it raises -/
namespace L2
open PySem PySem.Spec PyProof.Rows

end L2
/-! ### < of lists of ints; sum of one -/
namespace L2
open PySem PySem.Spec PyProof.Rows
open PySem.AutoSeq1 (wpAny_loadPart')
open PySem.MeetsSeq PySem.MeetsSeq2 PySem.MeetsSeq3 PySem.SeqAt

end L2
namespace My
open PySem L2
end My
namespace My
open PySem L2
end My
namespace My
open PySem L2
def lampI (ls : List Bool) (i : Int) : Bool := ls.getD i.toNat false
theorem walkI_cons (rss : List (List Int)) (q x : Int) (w : List Int) : walkI rss q (x :: w) = walkI rss (step rss q x) w := rfl
/-! two houses behind one another -/
/-! a house with its rooms numbered otherwise -/
end My
/-! ### try with some handlers, each by its class or one above it -/
namespace L2
open PySem PySem.Spec PyProof.Rows
end L2
/-! ### the pairs of a dict whose keys are ints and texts, walked; a loop over pairs -/
namespace L2
open PySem PySem.Spec PyProof.Rows


end L2
namespace My
open PySem L2
end My
namespace L2
open PySem PySem.Spec PyProof.Rows
end L2
/-! ### the least lit word -/
namespace My
open PySem L2
/-- each word's room is in the table, under a word that is not later -/
theorem bfs_least {d : Int} {rss : List (List Int)} (W : Ways d rss) (h0 : 0 < rss.length) : ∀ (n : Nat) (w : List Int), w.length = n → WordOk d w → ∃ e ∈ bfs rss, e.1 = walkI rss 0 w ∧ (e.2 = w ∨ slt e.2 w)
  | 0, w, hl, _ => by
    have e : w = [] := List.eq_nil_of_length_eq_zero hl
    subst e
    exact ⟨(0, []), List.mem_of_getElem? (bfs_ok W h0).head, rfl, .inl rfl⟩
  | n + 1, w, hl, ok => by
    have hne : w ≠ [] := fun z => by rw [z] at hl; cases hl
    obtain ⟨u, x, rfl⟩ : ∃ u x, w = u ++ [x] := ⟨w.dropLast, w.getLast hne, (List.dropLast_concat_getLast hne).symm⟩
    obtain ⟨x0, x1⟩ := ok x (by simp)
    obtain ⟨e, he, e1, e2⟩ := bfs_least W h0 n u (by simpa using hl) fun y hy => ok y (by simp [hy])
    obtain ⟨p, hp⟩ := List.getElem?_of_mem he
    have hpl : p < (bfs rss).length := by
      rcases Nat.lt_or_ge p (bfs rss).length with h | h
      · exact h
      · rw [List.getElem?_eq_none h] at hp; cases hp
    obtain ⟨f, hf, f1, f2⟩ := (bfs_ok W h0).cov p e x.toNat hp (by omega) (.inl hpl)
    rw [show ((x.toNat : Nat) : Int) = x by omega] at f1 f2
    refine ⟨f, hf, ?_, ?_⟩
    · rw [f1, walkI_snoc, walkI_snoc, ((bfs_ok W h0).ok e he).2, e1]
    · have s : e.2 ++ [x] = u ++ [x] ∨ slt (e.2 ++ [x]) (u ++ [x]) := e2.imp (fun z => by rw [z]) (fun z => slt_snoc z x x)
      rcases f2 with f2 | f2 <;> rcases s with s | s
      · exact .inl (f2.trans s)
      · exact .inr (f2 ▸ s)
      · exact .inr (s ▸ f2)
      · exact .inr (slt_trans f2 s)
end My
/-! ### texts: join, split, startswith, cut; a loop over two lists at once -/
namespace L2
open PySem PySem.Spec PyProof.Rows
section
variable {X : Cx}
/-! a text from a place on -/
end


end L2
/-! ### the text of a house -/
namespace My
open PySem L2
end My
/-! ### parts of a list -/
namespace L2
open PySem PySem.Spec PyProof.Rows
end L2
/-! ### what a learner knows, without the heap -/
namespace My
theorem nodup_sub {α : Type} [DecidableEq α] : ∀ {l m : List α}, l.Nodup → (∀ x ∈ l, x ∈ m) → l.length ≤ m.length
  | [], m, _, _ => by simp
  | x :: l, m, hn, h => by
    obtain ⟨h1, h2⟩ := List.nodup_cons.mp hn
    have hx := h x List.mem_cons_self
    have := nodup_sub (l := l) (m := m.erase x) h2 fun y hy => by
      have hyx : y ≠ x := fun e => h1 (by rw [← e]; exact hy)
      exact (List.mem_erase_of_ne hyx).mpr (h y (List.mem_cons_of_mem _ hy))
    rw [List.length_erase_of_mem hx] at this
    have hm : 0 < m.length := List.length_pos_of_mem hx
    rw [List.length_cons]; omega
section
variable {d : Int} {kn : Bk} {heads tails : List (List Int)}
theorem wok_app {d : Int} {a b : List Int} (ha : WordOk d a) (hb : WordOk d b) : WordOk d (a ++ b) := fun x hx => by
  rcases List.mem_append.mp hx with h | h
  · exact ha x h
  · exact hb x h
end
end My
/-! ### the guess of a learner -/
namespace My


end My
/-! ### dicts whose keys are things of the heap, of any kind -/
namespace L2
open PySem PySem.Spec PyProof.Rows
def isBoolOf (b : Bool) (v : Value) : Bool := match v with
  | .bool c => c == b
  | _ => false
theorem isBoolOf_shape {b : Bool} {v : Value} (h : isBoolOf b v = true) : v = .bool b := by cases v <;> simp_all [isBoolOf]
theorem hash_bool {prog : Program} {w : World} {A : Around} {E : Value → Shared → Prop} {s : Shared} {b : Bool} {Q : Int → Shared → Prop} (h : Q (reduceHash (if b then 1 else 0)) { s with toks := s.toks + 1 }) : wpAny (model prog w) A (PySem.pyHash (.bool b)) Q E s := by
  refine PySem.W.pyHash_slot (T := "bool") rfl F.slot_bool_hash entry_int_hash (args_int_hash _) (beq_builtin_none _) (.inl rfl) ?_
  cases b
  · exact (show wpAny _ _ (do ret (← mkInt 0)) _ _ s from wpAny_bind (wpAny_mkInt (wpAny_pure ⟨_, _, rfl, h⟩)))
  · exact (show wpAny _ _ (do ret (← mkInt 1)) _ _ s from wpAny_bind (wpAny_mkInt (wpAny_pure ⟨_, _, rfl, h⟩)))
def boolKind (prog : Program) (w : World) : PySem.KeyKind prog w Bool where
  is := isBoolOf
  hash := fun b => reduceHash (if b then 1 else 0)
  inj := fun v a b ha hb => by
    have h1 := isBoolOf_shape ha
    rw [isBoolOf_shape hb] at h1
    injection h1 with h1
    exact h1.symm
  byValue := fun k v h => by rw [isBoolOf_shape h]; rfl
  pyHash := fun hv h => by rw [isBoolOf_shape hv]; exact hash_bool h
  eqBool := fun {A E s a b u v Q} hu hv h => by
    rw [isBoolOf_shape hu, isBoolOf_shape hv]
    refine SeqAt.EqAt.bool_bool a b _ _ _ _ ?_
    have e : (a == b) = decide (a = b) := by cases a <;> cases b <;> rfl
    rw [e]; exact h
  «strs» := fun k x t v h => by simp [isBoolOf] at h
theorem Room.u16 {k : Nat} {A : Around} (r : Room k A) : A.units + 16 < cLine := by have := r.un; omega
theorem Room.u80 {k : Nat} {A : Around} (r : Room k A) : A.units + 80 < cLine := by have := r.un; omega
structure KD (P : Program) (w : World) (κ : Type) [DecidableEq κ] where
  kd : HeapKind P w κ
  ok : Hp → κ → Addr → Prop
  is : ∀ {H : Hp} {h : Heap} {k : κ} {a : Addr}, HOk P w H h → ok H k a → kd.is h k a
  keep : ∀ {H H' : Hp} {k : κ} {a : Addr}, (∀ b ys, H b = some (.tup ys) → H' b = some (.tup ys)) → ok H k a → ok H' k a
  room : ∀ {A : Around}, A.units + 16 < cLine → kd.room A.in1
section
variable {P : Program} {w : World} {κ : Type} [DecidableEq κ]
def DGAt (D : KD P w κ) (a : Addr) (xs : List (κ × Addr × Value)) : Heap → Prop := fun h => ∃ o es ep, h.get? a = some o ∧ o.ExactDict ∧ o.data = .dict es ep ∧ es.toList = xs.map (entryOfKey D.kd) ∧ (xs.map (·.1)).Nodup
abbrev KG (D : KD P w κ) (H : Hp) : List (κ × V) → List (κ × Addr × Value) → Prop := Paired fun p q => p.1 = q.1 ∧ D.ok H q.1 q.2.1 ∧ RelV p.2 q.2.2
def DG (D : KD P w κ) (H : Hp) (a : Addr) (kvs : List (κ × V)) : Prop := ∃ xs, H a = some (.ext (DGAt D a xs)) ∧ KG D H kvs xs ∧ (a == sysModules) = false ∧ kvs.length ≤ sizeLine
theorem KG.val {D : KD P w κ} {H : Hp} {kvs : List (κ × V)} {xs : List (κ × Addr × Value)} (r : KG D H kvs xs) (k : κ) : RelO (valV kvs k) ((atKey xs k).map (·.2)) := by
  induction r with
  | nil => exact True.intro
  | @cons p q ps qs h t ih =>
    obtain ⟨h1, _, h2⟩ := h
    by_cases e : p.1 = k
    · have e' : q.1 = k := h1.symm.trans e
      have b : atKey (q :: qs) k = some q.2 := by simp [atKey, List.find?_cons, e']
      rw [valV_pos e, b]; exact h2
    · have e' : ¬ q.1 = k := fun z => e (h1.trans z)
      have b : atKey (q :: qs) k = atKey qs k := by simp [atKey, List.find?_cons, e']
      rw [valV_neg e, b]; exact ih
theorem KG.repl {D : KD P w κ} {H : Hp} {kvs : List (κ × V)} {xs : List (κ × Addr × Value)} (r : KG D H kvs xs) (k : κ) {y : V} {u : Value} (ry : RelV y u) :
    KG D H (kvs.map fun kv => if kv.1 = k then (kv.1, y) else kv) (xs.map (putAt k u)) := by
  induction r with
  | nil => exact .nil
  | @cons p q ps qs h t ih =>
    rw [List.map_cons, List.map_cons]
    refine .cons ?_ ih
    obtain ⟨h1, h2, h3⟩ := h
    unfold putAt
    by_cases e : p.1 = k
    · rw [if_pos e, if_pos (h1.symm.trans e)]; exact ⟨h1, h2, ry⟩
    · rw [if_neg e, if_neg (fun z => e (h1.trans z))]; exact ⟨h1, h2, h3⟩
theorem KG.put {D : KD P w κ} {H : Hp} {kvs : List (κ × V)} {xs : List (κ × Addr × Value)} (r : KG D H kvs xs) (k : κ) {b : Addr} {y : V} {u : Value} (hb : D.ok H k b) (ry : RelV y u) :
    KG D H (putK kvs k y) (storedH xs k b u) := by
  have e : (kvs.any fun kv => decide (kv.1 = k)) = (atKey xs k).isSome := by
    rw [valV_any, (r.val k).isSome_eq, Option.isSome_map]
  unfold putK storedH
  rw [e]
  by_cases q : (atKey xs k).isSome = true
  · rw [if_pos q, if_pos q]; exact r.repl k ry
  · rw [if_neg q, if_neg q]; exact Paired.snoc r ⟨rfl, hb, ry⟩
theorem KG.keeps {D : KD P w κ} {H H' : Hp} {kvs : List (κ × V)} {xs : List (κ × Addr × Value)} (r : KG D H kvs xs) (ht : ∀ b ys, H b = some (.tup ys) → H' b = some (.tup ys)) : KG D H' kvs xs :=
  Paired.mapP r fun _ _ z => ⟨z.1, D.keep ht z.2.1, z.2.2⟩
theorem DG.same {D : KD P w κ} {H H' : Hp} {a : Addr} {kvs : List (κ × V)} (e : Same H H') (d : DG D H a kvs) : DG D H' a kvs := by
  obtain ⟨xs, h1, h2, h3⟩ := d
  exact ⟨xs, e _ _ h1, h2.keeps fun b ys q => e _ _ q, h3⟩
theorem DG.at {D : KD P w κ} {H : Hp} {h : Heap} {a : Addr} {kvs : List (κ × V)} {xs : List (κ × Addr × Value)} (ok : HOk P w H h) (h1 : H a = some (.ext (DGAt D a xs))) (r : KG D H kvs xs) : h.DictOfH D.kd a xs := by
  obtain ⟨⟨o, es, ep, g1, g2, g3, g4, g5⟩, _⟩ := (show ObjOk P w H h a (.ext (DGAt D a xs)) from ok a _ h1)
  refine ⟨o, es, ep, g1, g2, g3, g4, fun x hx => ?_, g5⟩
  have all : ∀ {l : List (κ × V)} {m : List (κ × Addr × Value)}, KG D H l m → ∀ x ∈ m, D.kd.is h x.1 x.2.1 := by
    intro l m q
    induction q with
    | nil => intro x hx; exact nomatch hx
    | @cons p q ps qs hq t ih =>
      intro x hx
      rcases List.mem_cons.mp hx with e | hx
      · subst e
        exact D.is ok hq.2.1
      · exact ih x hx
  exact all r x hx
theorem dg_ext {D : KD P w κ} {a : Addr} {xs : List (κ × Addr × Value)} {h : Heap} (hh : DGAt D a xs h) : DGAt D a xs h ∧ (∃ o, h.get? a = some o) ∧ ∀ h1 h2 : Heap, DGAt D a xs h1 → (∀ o, h1.get? a = some o → h2.get? a = some o) → DGAt D a xs h2 := by
  refine ⟨hh, ?_, fun h1 h2 x k => ?_⟩
  · obtain ⟨o, _, _, e, _⟩ := hh; exact ⟨o, e⟩
  · obtain ⟨o, es, ep, e, r⟩ := x
    exact ⟨o, es, ep, k o e, r⟩
/-- {} -/
def tDNewG (D : KD P w κ) : TE := fun _ H Q => ∀ p, H p = none → DG D (upd H p (.ext (DGAt D p []))) p [] → Q (.ref p) (upd H p (.ext (DGAt D p [])))
def tGGet (D : KD P w κ) (td ty : TE) : TE := fun σ H Q => td σ H fun x H1 => ty σ H1 fun y H2 => ∃ a b k kvs v, x = .ref a ∧ y = .ref b ∧ D.ok H2 k b ∧ DG D H2 a kvs ∧ valV kvs k = some v ∧ Q v H2
section
variable {X : Cx} {o i value : Expr} {pos pos' : Pos} {td ty tv : TE}
theorem pe_dnewG {P : Program} {w : World} (D : KD P w κ) {pos : Pos} (hP : X.prog = P := by rfl) (hw : X.w = w := by rfl) : PE X (.Dict [] [] pos) (tDNewG D) := by
  subst hP hw
  intro pins s σ H Q I h
  have hn := I.hok.fresh (Nat.le_refl s.heap.objs.size)
  have hs : (s.heap.objs.size == sysModules) = false := beq_eq_false_iff_ne.mpr (Ne.symm (Nat.ne_of_lt I.big))
  refine wpAny_Dict_empty ⟨.ref s.heap.objs.size, _, I.laid (a := s.heap.objs.size) (o := .ext (DGAt D s.heap.objs.size [])) (t' := s.toks) (fun _ _ q => Heap.get?_push_of_some _ q) (Nat.le_refl _) ?_, rfl, h _ hn ⟨[], upd_same, .nil, hs, Nat.zero_le _⟩⟩
  exact dg_ext ⟨_, #[], 0, Heap.get?_push_size _ rfl, ⟨rfl, rfl, rfl⟩, rfl, rfl, List.nodup_nil⟩
theorem pe_gget {P : Program} {w : World} (D : KD P w κ) (hu : X.A.units + 16 < cLine) (ho : PE X o td) (hi : PE X i ty) (hs : NoSl i) (hP : X.prog = P := by rfl) (hw : X.w = w := by rfl) : PE X (.Subscript o i pos) (tGGet D td ty) := by
  subst hP hw
  intro pins s σ H Q I h
  refine subD_of PySem.F.slot_dict_getitem.lookup hs (thn (ho pins s σ H _ I h) fun u s1 ⟨x, H1, I1, rx, q1⟩ => thn (hi pins s1 σ H1 _ I1 q1) fun iv s2 ⟨y, H2, I2, ry, a, b, k, kvs, v, ex, ey, hk, ⟨xs, g1, g2, g3, _⟩, l, q2⟩ => ?_)
  subst ex ey
  cases rx
  cases ry
  have dd := DG.at I2.hok g1 g2
  refine ⟨dd.typeIs, ?_⟩
  obtain ⟨w', hw', rw'⟩ := RelO.some_of (v := v) (o := (atKey xs k).map (·.2)) (by rw [← l]; exact g2.val k)
  obtain ⟨p, hp, hp2⟩ := Option.map_eq_some_iff.mp hw'
  refine wpAny_getItem_heap (D.room hu) (D.is I2.hok hk) dd hp ?_
  rw [hp2]
  exact ⟨v, H2, I2.tok _, rw', q2⟩
end
end
/-! ### in, not in, index: lists of lists -/

/-- lists at their places -/
structure LsAt {α : Type} (f : α → V) (H : Hp) (as : List Addr) (ws : List (List α)) : Prop where
  len : as.length = ws.length
  row : ∀ (i : Nat) a w, as[i]? = some a → ws[i]? = some w → H a = some (.lst (w.map f))

/-! ### every n-th item of a list -/

section
variable {σ : St} {H : Hp} {Q : VK} {te ts ty td tv : TE} {E : Ends}
variable {P : Program} {w : World} {κ : Type} [DecidableEq κ] {D : KD P w κ}
theorem r_dnewG (h : ∀ p, H p = none → DG D (upd H p (.ext (DGAt D p []))) p [] → Q (.ref p) (upd H p (.ext (DGAt D p [])))) : tDNewG D σ H Q := h
theorem r_gget (h : td σ H fun x H1 => ty σ H1 fun y H2 => ∃ a b k kvs v, x = .ref a ∧ y = .ref b ∧ D.ok H2 k b ∧ DG D H2 a kvs ∧ valV kvs k = some v ∧ Q v H2) : tGGet D td ty σ H Q := h
end

end L2
/-! ### the slow way of a learner -/
namespace My
end My
/-! ### a learner and a house that answers; rooms alike -/
namespace My
def alike (d : Int) (rss : List (List Int)) (ls : List Bool) (a b : Int) : Prop := ∀ v, WordOk d v → lampI ls (walkI rss a v) = lampI ls (walkI rss b v)
/-! the length of a least parting word -/

end My
namespace L2
open PySem PySem.Spec PyProof.Rows
theorem meets_dict_lenH {P : Program} {w : World} {κ : Type} [DecidableEq κ] (knd : HeapKind P w κ) (d : Addr) (hd : (d == sysModules) = false) : MeetsIn P w (PySem.Builtin.«dict.__len__» { pos := [.ref d] }) fun x R s => ∃ xs, s.heap.DictOfH knd d xs ∧ R (Except.ok (Flow.ret (.int (xs.length : Nat) s.toks))) { heap := s.heap, gens := s.gens, drawn := s.drawn, toks := s.toks + 1, os := s.os } :=
  PySem.MeetsIn.of_wp fun A R s x => by
    obtain ⟨xs, ⟨o, es, ep, ho, hc, hdat, hk, hp, hn⟩, h⟩ := x
    have e : es.size = xs.length := by
      rw [← Array.length_toList, hk, List.length_map]
    show wpAny _ _ (do let n ← dictSize d; let m ← Builtin.Dict.pendingCount d; retInt ((n : Int) + (m : Int))) _ _ _
    refine wpAny_bind (wpAny_bind (wpAny_dictEntries ho hdat (wpAny_pure (wpAny_bind (wpAny_pendingCount_other hd (wpAny_ret_mkInt ?_))))))
    rw [e]
    simpa using h
theorem len_bodyH {P : Program} {w : World} {κ : Type} [DecidableEq κ] {knd : HeapKind P w κ} {A : Around} {E : Value → Shared → Prop} {s : Shared} {d : Addr} {xs : List (κ × Addr × Value)} {Q : Value → Shared → Prop} (hd : (d == sysModules) = false) (hm : s.heap.DictOfH knd d xs) (hfit : ((xs.length : Nat) : Int) < 2 ^ 63)
    (h : Q (.int (xs.length : Nat) (s.toks + 1)) { heap := s.heap, gens := s.gens, drawn := s.drawn, toks := s.toks + 1 + 1, os := s.os }) :
    wpAny (model P w) A (PySem.Builtin.len { pos := [.ref d] }) (fun fin s' => ∃ r, fin = Fin.done (Flow.ret r) ∧ Q r s') E s := by
  refine wpAny_bind (wpAny_pure (wpAny_bind (wpAny_callSpecial?_slot hm.typeIs PySem.F.slot_dict_len (call_meetsIn PySem.F.slot_dict_len hm.typeIs PySem.F.entry_dict_len (PySem.F.args_dict_len_1 (.ref d)) (meets_dict_lenH knd d hd) ⟨xs, hm, ?_⟩))))
  show wpAny _ _ _ _ _ _
  refine wpAny_bind (wpAny_holding (wpAny_pure (wpAny_bind (wpAny_letGo ?_))))
  have h1 : ¬ (((xs.length : Nat) : Int) < 0) := by omega
  have h2 : ¬ ((2 : Int) ^ 63 ≤ ((xs.length : Nat) : Int)) := by omega
  show wpAny _ _ _ _ _ _
  rw [if_neg (by omega)]
  show wpAny _ _ _ _ _ _
  rw [if_neg (by omega)]
  exact wpAny_bind (wpAny_mkInt (wpAny_pure ⟨_, rfl, h⟩))
end L2
/-! ### the keys of a dict with tuple keys, walked while the dict stands still -/
namespace L2
open PySem PySem.Spec PyProof.Rows



end L2
/-! ### list(zip(a, b)) -/
namespace L2
open PySem PySem.Spec PyProof.Rows
theorem star_lst {xs : List Expr} {p : Pos} {es : List Expr} {env : PySem.Env} : starEach (.List xs p :: es) env = (false, eval (.List xs p) env) :: starEach es env := by rfl


end L2
/-! ### the pairs of rooms of two houses that are walked at once -/
namespace My
open PySem L2 PyProof.Rows
section
variable {rss sss : List (List Int)}
variable {d : Int} (W : Ways d rss) (W2 : Ways d sss) (h1 : 0 < rss.length) (h2 : 0 < sss.length)
include W W2 h1 h2
end
end My
/-! ### try around one call of a def of the module, some handlers, each by its class or one above it: the names stand as before where it raises -/
namespace L2
open PySem PySem.Spec PyProof.Rows

end L2
namespace My
/-! ### numbers by first coming -/
section
variable {α : Type} [DecidableEq α]
def addD (L : List α) (x : α) : List α := if x ∈ L then L else L ++ [x]
def dd (L : List α) : List α := L.foldl addD []
def numsOf (L : List α) : List Int := L.map fun x => ((dd L).idxOf x : Nat)
theorem dd_snoc (L : List α) (x : α) : dd (L ++ [x]) = addD (dd L) x := by unfold dd; rw [List.foldl_append]; rfl
theorem snocRec {P : List α → Prop} (h0 : P []) (h1 : ∀ L x, P L → P (L ++ [x])) (L : List α) : P L := by
  have : ∀ (n : Nat) (L : List α), L.length = n → P L := fun n => by
    induction n with
    | zero => intro L h; rw [List.length_eq_zero_iff.mp h]; exact h0
    | succ n ih =>
      intro L h
      rcases List.eq_nil_or_concat L with rfl | ⟨R, x, rfl⟩
      · exact h0
      · rw [List.concat_eq_append] at h ⊢
        exact h1 R x (ih R (by simpa using h))
  exact this _ L rfl
theorem mem_dd (L : List α) (y : α) : y ∈ dd L ↔ y ∈ L := by
  induction L using snocRec with
  | h0 => simp [dd]
  | h1 L x ih =>
    rw [dd_snoc]; unfold addD
    by_cases h : x ∈ dd L
    · rw [if_pos h, ih]
      have := ih
      constructor
      · intro z; simp [z]
      · intro z
        rcases List.mem_append.mp z with z | z
        · exact z
        · have e := List.mem_singleton.mp z; subst e; exact ih.mp h
    · rw [if_neg h, List.mem_append, List.mem_append, ih]
theorem dd_nodup (L : List α) : (dd L).Nodup := by
  induction L using snocRec with
  | h0 => simp [dd]
  | h1 L x ih =>
    rw [dd_snoc]; unfold addD
    by_cases h : x ∈ dd L
    · rw [if_pos h]; exact ih
    · rw [if_neg h, List.nodup_append]
      exact ⟨ih, by simp, fun a ha b hb e => h (by rw [← List.mem_singleton.mp hb, ← e]; exact ha)⟩
theorem dd_len (L : List α) : (dd L).length ≤ L.length := by
  induction L using snocRec with
  | h0 => simp [dd]
  | h1 L x ih =>
    rw [dd_snoc]; unfold addD
    by_cases h : x ∈ dd L
    · rw [if_pos h]; simp; omega
    · rw [if_neg h]; simp; omega
theorem numsOf_len (L : List α) : (numsOf L).length = L.length := by simp [numsOf]
theorem numsOf_get {L : List α} {i : Nat} {x : α} (h : L[i]? = some x) : (numsOf L)[i]? = some ((dd L).idxOf x : Int) := by unfold numsOf; rw [List.getElem?_map, h]; rfl
theorem numsOf_eq {L : List α} {i j : Nat} {x y : α} (h : L[i]? = some x) (g : L[j]? = some y) : (numsOf L)[i]? = (numsOf L)[j]? ↔ x = y := by
  rw [numsOf_get h, numsOf_get g]
  constructor
  · intro e
    have e : (dd L).idxOf x = (dd L).idxOf y := by have := Option.some.inj e; omega
    have hx := List.idxOf_lt_length_of_mem ((mem_dd L x).mpr (List.mem_of_getElem? h))
    have hy := List.idxOf_lt_length_of_mem ((mem_dd L y).mpr (List.mem_of_getElem? g))
    have a1 := List.getElem_idxOf hx
    have a2 := List.getElem_idxOf hy
    have z : (dd L)[(dd L).idxOf x]? = (dd L)[(dd L).idxOf y]? := by rw [e]
    rw [List.getElem?_eq_getElem hx, List.getElem?_eq_getElem hy, a1, a2] at z
    exact Option.some.inj z
  · intro e; rw [e]
theorem numsOf_lt {L : List α} {c : Int} (h : c ∈ numsOf L) : 0 ≤ c ∧ c < (dd L).length := by
  unfold numsOf at h
  obtain ⟨x, hx, rfl⟩ := List.mem_map.mp h
  have := List.idxOf_lt_length_of_mem ((mem_dd L x).mpr hx)
  omega
theorem numsOf_all {L : List α} {c : Nat} (h : c < (dd L).length) : (c : Int) ∈ numsOf L := by
  unfold numsOf
  refine List.mem_map.mpr ⟨(dd L)[c], (mem_dd L _).mp (List.getElem_mem h), ?_⟩
  rw [(dd_nodup L).idxOf_getElem]
/-- the first place of each thing grows with its number -/
theorem firsts_lt {L : List α} {c c' : Nat} {x y : α} (hc : c < c') (h : (dd L)[c]? = some x) (g : (dd L)[c']? = some y) : L.idxOf x < L.idxOf y := by
  induction L using snocRec generalizing c c' x y with
  | h0 => simp [dd] at h
  | h1 L z ih =>
    rw [dd_snoc] at h g
    unfold addD at h g
    by_cases hz : z ∈ dd L
    · rw [if_pos hz] at h g
      have hx := (mem_dd L x).mp (List.mem_of_getElem? h)
      have hy := (mem_dd L y).mp (List.mem_of_getElem? g)
      rw [List.idxOf_append, if_pos hx, List.idxOf_append, if_pos hy]
      exact ih hc h g
    · rw [if_neg hz] at h g
      have hl := (List.getElem?_eq_some_iff.mp g).1
      rw [List.length_append, List.length_singleton] at hl
      rw [List.getElem?_append_left (by omega)] at h
      have hx := (mem_dd L x).mp (List.mem_of_getElem? h)
      by_cases hc2 : c' < (dd L).length
      · rw [List.getElem?_append_left hc2] at g
        have hy := (mem_dd L y).mp (List.mem_of_getElem? g)
        rw [List.idxOf_append, if_pos hx, List.idxOf_append, if_pos hy]
        exact ih hc h g
      · rw [List.getElem?_append_right (by omega)] at g
        have e : c' - (dd L).length = 0 := by omega
        rw [e] at g
        cases g
        have hy : z ∉ L := fun q => hz ((mem_dd L z).mpr q)
        rw [List.idxOf_append, if_pos hx, List.idxOf_append, if_neg hy]
        have := List.idxOf_lt_length_of_mem hx
        omega
theorem idx_nums {L : List α} {c : Nat} {x : α} (h : (dd L)[c]? = some x) : (numsOf L).idxOf (c : Int) = L.idxOf x := by
  have key : ∀ (D : List α), D.Nodup → (∀ y ∈ L, y ∈ D) → D[c]? = some x → ∀ M : List α, (∀ y ∈ M, y ∈ D) → (M.map fun y => ((D.idxOf y : Nat) : Int)).idxOf (c : Int) = M.idxOf x := fun D hD hLD hDc M hM => by
    induction M with
    | nil => rfl
    | cons y r ih =>
      rw [List.map_cons, List.idxOf_cons, List.idxOf_cons, ih fun z hz => hM z (by simp [hz])]
      have : (((D.idxOf y : Nat) : Int) == (c : Int)) = (y == x) := by
        have hyD := hM y (by simp)
        by_cases e : y = x
        · subst e
          have h1 := (List.getElem?_eq_some_iff.mp hDc)
          obtain ⟨hc, e2⟩ := h1
          have : D.idxOf y = c := by rw [← e2]; exact hD.idxOf_getElem c hc
          rw [this]; simp
        · have : D.idxOf y ≠ c := fun z => e (by
            have hy := List.idxOf_lt_length_of_mem hyD
            have a1 := List.getElem_idxOf hy
            have a2 : D[D.idxOf y]? = some y := by rw [List.getElem?_eq_getElem hy, a1]
            rw [z, hDc] at a2
            exact (Option.some.inj a2).symm)
          rw [beq_eq_false_iff_ne.mpr e, beq_eq_false_iff_ne.mpr (by omega)]
      rw [this]
  exact key (dd L) (dd_nodup L) (fun y hy => (mem_dd L y).mpr hy) h L (fun y hy => (mem_dd L y).mpr hy)
end
end My
namespace My
/-! ### kinds of rooms, parted further by each round -/
/-- the number of a room's kind -/
def kAt (K : List Int) (q : Int) : Int := K.getD q.toNat 0
def marksK (T : List (List Int)) (K : List Int) : List (Int × List Int) := T.zipIdx.map fun e => (kAt K (e.2 : Nat), e.1.map (kAt K))
def kdN (T : List (List Int)) (ls : List Bool) : Nat → List Int
  | 0 => numsOf ls
  | n + 1 => numsOf (marksK T (kdN T ls n))
/-- how many kinds -/
def kcN (T : List (List Int)) (ls : List Bool) : Nat → Nat
  | 0 => (dd ls).length
  | n + 1 => (dd (marksK T (kdN T ls n))).length
theorem marksK_len (T : List (List Int)) (K : List Int) : (marksK T K).length = T.length := by simp [marksK]
theorem marksK_get {T : List (List Int)} {K : List Int} {i : Nat} {row : List Int} (h : T[i]? = some row) : (marksK T K)[i]? = some (kAt K (i : Nat), row.map (kAt K)) := by
  unfold marksK
  rw [List.getElem?_map, List.getElem?_zipIdx, h]
  simp
section
variable {d : Int} {T : List (List Int)} {ls : List Bool}
theorem kdN_len (hl : ls.length = T.length) : ∀ n, (kdN T ls n).length = T.length
  | 0 => by rw [kdN, numsOf_len, hl]
  | n + 1 => by rw [kdN, numsOf_len, marksK_len]
theorem kAt_get {K : List Int} {q : Int} (h0 : 0 ≤ q) (h1 : q < K.length) : K[q.toNat]? = some (kAt K q) := by
  unfold kAt
  rw [List.getD_eq_getElem?_getD, List.getElem?_eq_getElem (by omega)]; rfl
theorem kAt_eq {K : List Int} {a b : Int} (a0 : 0 ≤ a) (a1 : a < K.length) (b0 : 0 ≤ b) (b1 : b < K.length) : K[a.toNat]? = K[b.toNat]? ↔ kAt K a = kAt K b := by
  rw [kAt_get a0 a1, kAt_get b0 b1]
  exact ⟨Option.some.inj, fun h => by rw [h]⟩
theorem kd0_eq (hl : ls.length = T.length) {a b : Int} (a0 : 0 ≤ a) (a1 : a < T.length) (b0 : 0 ≤ b) (b1 : b < T.length) : kAt (kdN T ls 0) a = kAt (kdN T ls 0) b ↔ lampI ls a = lampI ls b := by
  have hk := kdN_len hl 0
  rw [← kAt_eq a0 (by omega) b0 (by omega)]
  have ha : a.toNat < ls.length := by omega
  have hb : b.toNat < ls.length := by omega
  rw [kdN, numsOf_eq (List.getElem?_eq_getElem ha) (List.getElem?_eq_getElem hb)]
  unfold lampI
  rw [List.getD_eq_getElem?_getD, List.getD_eq_getElem?_getD, List.getElem?_eq_getElem ha, List.getElem?_eq_getElem hb]; rfl
theorem kdS_eq (W : Ways d T) (hl : ls.length = T.length) (n : Nat) {a b : Int} (a0 : 0 ≤ a) (a1 : a < T.length) (b0 : 0 ≤ b) (b1 : b < T.length) :
    kAt (kdN T ls (n + 1)) a = kAt (kdN T ls (n + 1)) b ↔ kAt (kdN T ls n) a = kAt (kdN T ls n) b ∧ ∀ x, 0 ≤ x → x < d → kAt (kdN T ls n) (step T a x) = kAt (kdN T ls n) (step T b x) := by
  have hk := kdN_len hl (n + 1)
  rw [← kAt_eq a0 (by omega) b0 (by omega)]
  have ha : a.toNat < T.length := by omega
  have hb : b.toNat < T.length := by omega
  have ga := List.getElem?_eq_getElem ha
  have gb := List.getElem?_eq_getElem hb
  rw [kdN, numsOf_eq (marksK_get ga) (marksK_get gb)]
  have ea : ((a.toNat : Nat) : Int) = a := by omega
  have eb : ((b.toNat : Nat) : Int) = b := by omega
  rw [ea, eb, Prod.mk.injEq]
  refine and_congr Iff.rfl ?_
  obtain ⟨la, _⟩ := W.row _ (List.getElem_mem ha)
  obtain ⟨lb, _⟩ := W.row _ (List.getElem_mem hb)
  have sa : ∀ x, step T a x = T[a.toNat].getD x.toNat 0 := fun x => by unfold step; rw [show T.getD a.toNat [] = T[a.toNat] by rw [List.getD_eq_getElem?_getD, ga]; rfl]
  have sb : ∀ x, step T b x = T[b.toNat].getD x.toNat 0 := fun x => by unfold step; rw [show T.getD b.toNat [] = T[b.toNat] by rw [List.getD_eq_getElem?_getD, gb]; rfl]
  constructor
  · intro e x x0 x1
    have e2 := congrArg (fun l : List Int => l[x.toNat]?) e
    simp only [List.getElem?_map] at e2
    rw [sa, sb, List.getD_eq_getElem?_getD, List.getD_eq_getElem?_getD]
    rw [List.getElem?_eq_getElem (show x.toNat < T[a.toNat].length by omega), List.getElem?_eq_getElem (show x.toNat < T[b.toNat].length by omega)] at e2 ⊢
    simpa using e2
  · intro h
    apply List.ext_getElem?
    intro j
    rw [List.getElem?_map, List.getElem?_map]
    by_cases hj : (j : Int) < d
    · have := h (j : Int) (by omega) hj
      rw [sa, sb, List.getD_eq_getElem?_getD, List.getD_eq_getElem?_getD, Int.toNat_natCast] at this
      rw [List.getElem?_eq_getElem (show j < T[a.toNat].length by omega), List.getElem?_eq_getElem (show j < T[b.toNat].length by omega)] at this ⊢
      simpa using this
    · rw [List.getElem?_eq_none_iff.mpr (show T[a.toNat].length ≤ j by omega), List.getElem?_eq_none_iff.mpr (show T[b.toNat].length ≤ j by omega)]
/-- after n rounds: one kind iff alike by all words with up to n doors -/
theorem kdN_iff (W : Ways d T) (hl : ls.length = T.length) : ∀ (n : Nat) {a b : Int}, 0 ≤ a → a < T.length → 0 ≤ b → b < T.length →
    (kAt (kdN T ls n) a = kAt (kdN T ls n) b ↔ ∀ w, WordOk d w → w.length ≤ n → lampI ls (walkI T a w) = lampI ls (walkI T b w))
  | 0, a, b, a0, a1, b0, b1 => by
    rw [kd0_eq hl a0 a1 b0 b1]
    constructor
    · intro h w _ hw
      have : w = [] := List.length_eq_zero_iff.mp (by omega)
      subst this
      exact h
    · intro h
      exact h [] (fun x hx => by simp at hx) (by simp)
  | n + 1, a, b, a0, a1, b0, b1 => by
    rw [kdS_eq W hl n a0 a1 b0 b1, kdN_iff W hl n a0 a1 b0 b1]
    constructor
    · rintro ⟨h1, h2⟩ w ok hw
      cases w with
      | nil => exact h1 [] ok (by simp)
      | cons x w =>
        obtain ⟨x0, x1⟩ := ok x List.mem_cons_self
        have okw : WordOk d w := fun y hy => ok y (List.mem_cons_of_mem _ hy)
        obtain ⟨_, _, _, p1, p2⟩ := step_in W a0 a1 x0 x1
        obtain ⟨_, _, _, p3, p4⟩ := step_in W b0 b1 x0 x1
        rw [walkI_cons, walkI_cons]
        exact (kdN_iff W hl n p1 p2 p3 p4).mp (h2 x x0 x1) w okw (by simpa using hw)
    · intro h
      refine ⟨fun w ok hw => h w ok (by omega), fun x x0 x1 => ?_⟩
      obtain ⟨_, _, _, p1, p2⟩ := step_in W a0 a1 x0 x1
      obtain ⟨_, _, _, p3, p4⟩ := step_in W b0 b1 x0 x1
      refine (kdN_iff W hl n p1 p2 p3 p4).mpr fun w ok hw => ?_
      have := h (x :: w) (fun y hy => by
        rcases List.mem_cons.mp hy with rfl | hy
        · exact ⟨x0, x1⟩
        · exact ok y hy) (by simpa using hw)
      exact this
theorem kdN_lt (hl : ls.length = T.length) (n : Nat) {a : Int} (a0 : 0 ≤ a) (a1 : a < T.length) : 0 ≤ kAt (kdN T ls n) a ∧ kAt (kdN T ls n) a < kcN T ls n := by
  have hm := List.mem_of_getElem? (kAt_get a0 (by rw [kdN_len hl n]; exact a1) : (kdN T ls n)[a.toNat]? = _)
  cases n with
  | zero => exact numsOf_lt hm
  | succ n => exact numsOf_lt hm
/-- a room of each kind -/
theorem kdN_rep (hl : ls.length = T.length) (n : Nat) {c : Nat} (hc : c < kcN T ls n) : ∃ a : Int, 0 ≤ a ∧ a < T.length ∧ kAt (kdN T ls n) a = c := by
  have hm : (c : Int) ∈ kdN T ls n := by
    cases n with
    | zero => exact numsOf_all hc
    | succ n => exact numsOf_all hc
  obtain ⟨i, hi⟩ := List.getElem?_of_mem hm
  have h1 := (List.getElem?_eq_some_iff.mp hi).1
  rw [kdN_len hl n] at h1
  refine ⟨i, by omega, by omega, ?_⟩
  unfold kAt
  rw [Int.toNat_natCast, List.getD_eq_getElem?_getD, hi]; rfl
theorem kcN_len (hl : ls.length = T.length) (n : Nat) : kcN T ls n ≤ T.length := by
  cases n with
  | zero => have := dd_len ls; simp only [kcN]; omega
  | succ n => have := dd_len (marksK T (kdN T ls n)); rw [marksK_len] at this; exact this
/-- where a round makes no more kinds, it parts nothing -/
theorem kdN_stop (W : Ways d T) (hl : ls.length = T.length) {n : Nat} (h : kcN T ls (n + 1) ≤ kcN T ls n) {a b : Int} (a0 : 0 ≤ a) (a1 : a < T.length) (b0 : 0 ≤ b) (b1 : b < T.length) (e : kAt (kdN T ls n) a = kAt (kdN T ls n) b) :
    kAt (kdN T ls (n + 1)) a = kAt (kdN T ls (n + 1)) b := by
  apply Classical.byContradiction
  intro hne
  have la := kdN_lt (ls := ls) hl n a0 a1
  obtain ⟨c0, hc0⟩ : ∃ c0 : Nat, kAt (kdN T ls n) a = c0 := ⟨(kAt (kdN T ls n) a).toNat, by omega⟩
  -- for each kind a room, for that of a two
  have fine : ∀ {p q : Int}, 0 ≤ p → p < T.length → 0 ≤ q → q < T.length → kAt (kdN T ls (n + 1)) p = kAt (kdN T ls (n + 1)) q → kAt (kdN T ls n) p = kAt (kdN T ls n) q := fun p0 p1 q0 q1 z => ((kdS_eq W hl n p0 p1 q0 q1).mp z).1
  obtain ⟨f, hf⟩ : ∃ f : Nat → Int, ∀ c, c < kcN T ls n → 0 ≤ f c ∧ f c < T.length ∧ kAt (kdN T ls n) (f c) = c := by
    refine ⟨fun c => if h : c < kcN T ls n then (kdN_rep hl n h).choose else 0, fun c hc => ?_⟩
    simp only [hc, dite_true]
    exact (kdN_rep hl n hc).choose_spec
  let g : Nat → Int := fun c => if c = c0 then a else f c
  have hg : ∀ c, c < kcN T ls n → 0 ≤ g c ∧ g c < T.length ∧ kAt (kdN T ls n) (g c) = c := fun c hc => by
    show 0 ≤ (if c = c0 then a else f c) ∧ (if c = c0 then a else f c) < T.length ∧ kAt (kdN T ls n) (if c = c0 then a else f c) = c
    by_cases z : c = c0
    · rw [if_pos z, z]; exact ⟨a0, a1, hc0⟩
    · rw [if_neg z]; exact hf c hc
  have nd : (((List.range (kcN T ls n)).map fun c => kAt (kdN T ls (n + 1)) (g c)) ++ [kAt (kdN T ls (n + 1)) b]).Nodup := by
    rw [List.nodup_append]
    refine ⟨?_, by simp, fun x hx y hy => ?_⟩
    · rw [List.Nodup, List.pairwise_map]
      refine List.Pairwise.imp_of_mem (fun {p q} hp hq hpq z => hpq ?_) List.nodup_range
      obtain ⟨p0, p1, p2⟩ := hg p (List.mem_range.mp hp)
      obtain ⟨q0, q1, q2⟩ := hg q (List.mem_range.mp hq)
      have := fine p0 p1 q0 q1 z
      omega
    · obtain ⟨c, hc, rfl⟩ := List.mem_map.mp hx
      rw [List.mem_singleton.mp hy]
      intro z
      obtain ⟨p0, p1, p2⟩ := hg c (List.mem_range.mp hc)
      have z2 := fine p0 p1 b0 b1 z
      have hcc : c = c0 := by omega
      have : g c = a := by show (if c = c0 then a else f c) = a; rw [if_pos hcc]
      rw [this] at z
      exact hne z
  have := nodup_sub nd (m := (List.range (kcN T ls (n + 1))).map fun k : Nat => (k : Int)) fun x hx => by
    have : ∃ p : Int, 0 ≤ p ∧ p < T.length ∧ x = kAt (kdN T ls (n + 1)) p := by
      rcases List.mem_append.mp hx with hx | hx
      · obtain ⟨c, hc, rfl⟩ := List.mem_map.mp hx
        obtain ⟨p0, p1, _⟩ := hg c (List.mem_range.mp hc)
        exact ⟨g c, p0, p1, rfl⟩
      · exact ⟨b, b0, b1, List.mem_singleton.mp hx⟩
    obtain ⟨p, p0, p1, rfl⟩ := this
    have := kdN_lt (ls := ls) hl (n + 1) p0 p1
    exact List.mem_map.mpr ⟨(kAt (kdN T ls (n + 1)) p).toNat, List.mem_range.mpr (by omega), by omega⟩
  simp at this
  omega
/-- then what is left of one kind is alike -/
theorem kdN_alike (W : Ways d T) (hl : ls.length = T.length) {n : Nat} (h : kcN T ls (n + 1) ≤ kcN T ls n) {a b : Int} (a0 : 0 ≤ a) (a1 : a < T.length) (b0 : 0 ≤ b) (b1 : b < T.length) :
    kAt (kdN T ls n) a = kAt (kdN T ls n) b ↔ alike d T ls a b := by
  constructor
  · intro e w
    induction w generalizing a b with
    | nil => intro ok; exact (kdN_iff W hl n a0 a1 b0 b1).mp e [] ok (by simp)
    | cons x w ih =>
      intro ok
      obtain ⟨x0, x1⟩ := ok x List.mem_cons_self
      obtain ⟨_, _, _, p1, p2⟩ := step_in W a0 a1 x0 x1
      obtain ⟨_, _, _, p3, p4⟩ := step_in W b0 b1 x0 x1
      exact ih p1 p2 p3 p4 (((kdS_eq W hl n a0 a1 b0 b1).mp (kdN_stop W hl h a0 a1 b0 b1 e)).2 x x0 x1) fun y hy => ok y (List.mem_cons_of_mem _ hy)
  · intro e
    exact (kdN_iff W hl n a0 a1 b0 b1).mpr fun w ok _ => e w ok
end
end My
namespace My
/-! ### one room for each kind -/
def quotR (T : List (List Int)) (K : List Int) (m : Nat) : List (List Int) := (List.range m).map fun (c : Nat) => (T.getD (K.idxOf (c : Int)) []).map (kAt K)
def quotL (ls : List Bool) (K : List Int) (m : Nat) : List Bool := (List.range m).map fun (c : Nat) => ls.getD (K.idxOf (c : Int)) false
structure QK (d : Int) (T : List (List Int)) (ls : List Bool) (K : List Int) (m : Nat) : Prop where
  W : Ways d T
  n0 : 0 < T.length
  hl : ls.length = T.length
  kl : K.length = T.length
  lt : ∀ {a : Int}, 0 ≤ a → a < T.length → 0 ≤ kAt K a ∧ kAt K a < m
  all : ∀ {c : Nat}, c < m → (c : Int) ∈ K
  iff : ∀ {a b : Int}, 0 ≤ a → a < T.length → 0 ≤ b → b < T.length → (kAt K a = kAt K b ↔ alike d T ls a b)
  inc : ∀ {c c' : Nat}, c < c' → c' < m → K.idxOf (c : Int) < K.idxOf (c' : Int)
theorem nums_inc {α : Type} [DecidableEq α] {L : List α} {c c' : Nat} (h : c < c') (hm : c' < (dd L).length) : (numsOf L).idxOf (c : Int) < (numsOf L).idxOf (c' : Int) := by
  have h1 := List.getElem?_eq_getElem (show c < (dd L).length by omega)
  have h2 := List.getElem?_eq_getElem hm
  rw [idx_nums h1, idx_nums h2]
  exact firsts_lt h h1 h2
theorem QK.of {d : Int} {T : List (List Int)} {ls : List Bool} (W : Ways d T) (n0 : 0 < T.length) (hl : ls.length = T.length) {n : Nat} (h : kcN T ls (n + 1) ≤ kcN T ls n) : QK d T ls (kdN T ls n) (kcN T ls n) where
  W := W
  n0 := n0
  hl := hl
  kl := kdN_len hl n
  lt := fun a0 a1 => kdN_lt hl n a0 a1
  all := fun {c} hc => by
    cases n with
    | zero => exact numsOf_all hc
    | succ n => exact numsOf_all hc
  iff := fun a0 a1 b0 b1 => kdN_alike W hl h a0 a1 b0 b1
  inc := fun {c c'} h1 h2 => by
    cases n with
    | zero => exact nums_inc h1 h2
    | succ n => exact nums_inc h1 h2
section
variable {d : Int} {T : List (List Int)} {ls : List Bool} {K : List Int} {m : Nat}
/-- the first room of a kind -/
theorem QK.first (Q : QK d T ls K m) {c : Nat} (hc : c < m) : K.idxOf (c : Int) < T.length ∧ kAt K ((K.idxOf (c : Int) : Nat) : Int) = c := by
  have h := List.idxOf_lt_length_of_mem (Q.all hc)
  have h2 := List.getElem_idxOf h
  refine ⟨by rw [← Q.kl]; exact h, ?_⟩
  unfold kAt
  rw [Int.toNat_natCast, List.getD_eq_getElem?_getD, List.getElem?_eq_getElem h, h2]; rfl
theorem QK.first_le (Q : QK d T ls K m) {t : Nat} (ht : t < T.length) : K.idxOf (kAt K (t : Int)) ≤ t := by
  have hg := kAt_get (K := K) (q := (t : Int)) (by omega) (by rw [Q.kl]; omega)
  rw [Int.toNat_natCast] at hg
  apply Nat.le_of_not_lt
  intro z
  have h1 := (List.getElem?_eq_some_iff.mp hg)
  obtain ⟨h1, h2⟩ := h1
  have := List.not_of_lt_findIdx (p := fun x => x == kAt K (t : Int)) (xs := K) (i := t) z
  rw [h2] at this
  simp at this
theorem QK.m0' (Q : QK d T ls K m) : 0 < m := by
  obtain ⟨k0, k1⟩ := Q.lt (a := 0) (Int.le_refl 0) (by have := Q.n0; omega)
  omega
theorem QK.le (Q : QK d T ls K m) : m ≤ T.length := by
  have key : ∀ c, c < m → c ≤ K.idxOf (c : Int) := fun c => by
    induction c with
    | zero => intro _; exact Nat.zero_le _
    | succ c ih =>
      intro h
      have h1 := ih (by omega)
      have h2 := Q.inc (show c < c + 1 by omega) h
      omega
  have m0 := Q.m0'
  have h1 := key (m - 1) (by omega)
  have h2 := (Q.first (show m - 1 < m by omega)).1
  omega
theorem quotR_len (T : List (List Int)) (K : List Int) (m : Nat) : (quotR T K m).length = m := by simp [quotR]
theorem quotL_len (ls : List Bool) (K : List Int) (m : Nat) : (quotL ls K m).length = m := by simp [quotL]
theorem QK.ways (Q : QK d T ls K m) : Ways d (quotR T K m) := by
  refine ⟨fun row hr => ?_⟩
  unfold quotR at hr
  obtain ⟨c, hc, rfl⟩ := List.mem_map.mp hr
  obtain ⟨h1, h2⟩ := Q.first (List.mem_range.mp hc)
  have e : T.getD (K.idxOf (c : Int)) [] = T[K.idxOf (c : Int)] := by rw [List.getD_eq_getElem?_getD, List.getElem?_eq_getElem h1]; rfl
  obtain ⟨r1, r2⟩ := Q.W.row _ (List.getElem_mem h1)
  rw [e, quotR_len]
  refine ⟨by rw [List.length_map]; exact r1, fun x hx => ?_⟩
  obtain ⟨y, hy, rfl⟩ := List.mem_map.mp hx
  obtain ⟨y0, y1⟩ := r2 y hy
  exact Q.lt y0 y1
theorem QK.stp (Q : QK d T ls K m) {t x : Int} (t0 : 0 ≤ t) (t1 : t < T.length) (x0 : 0 ≤ x) (x1 : x < d) : step (quotR T K m) (kAt K t) x = kAt K (My.step T t x) := by
  obtain ⟨k0, k1⟩ := Q.lt t0 t1
  obtain ⟨c, hc⟩ : ∃ c : Nat, kAt K t = c := ⟨(kAt K t).toNat, by omega⟩
  have hcm : c < m := by omega
  obtain ⟨f1, f2⟩ := Q.first hcm
  obtain ⟨row, r1, r2, r3, r4⟩ := step_in Q.W (q := ((K.idxOf (c : Int) : Nat) : Int)) (by omega) (by omega) x0 x1
  have e1 : My.step (quotR T K m) (kAt K t) x = kAt K (My.step T ((K.idxOf (c : Int) : Nat) : Int) x) := by
    rw [hc]
    conv => lhs; unfold My.step
    rw [Int.toNat_natCast] at r1
    unfold quotR
    rw [Int.toNat_natCast, List.getD_eq_getElem?_getD (l := List.map _ _), List.getElem?_map, List.getElem?_range hcm]
    simp only [Option.map_some, Option.getD_some]
    rw [List.getD_eq_getElem?_getD (l := T), r1]
    simp only [Option.getD_some]
    rw [List.getD_eq_getElem?_getD, List.getElem?_map, r2]; rfl
  rw [e1]
  obtain ⟨_, _, _, s3, s4⟩ := step_in Q.W t0 t1 x0 x1
  have al := (Q.iff (by omega) (by omega) t0 t1).mp (f2.trans hc.symm)
  exact (Q.iff r3 r4 s3 s4).mpr fun v hv => al (x :: v) fun y hy => by
    rcases List.mem_cons.mp hy with rfl | hy
    · exact ⟨x0, x1⟩
    · exact hv y hy
theorem QK.walk (Q : QK d T ls K m) : ∀ {w : List Int} {t : Int}, WordOk d w → 0 ≤ t → t < T.length → walkI (quotR T K m) (kAt K t) w = kAt K (walkI T t w)
  | [], t, _, _, _ => rfl
  | x :: w, t, ok, t0, t1 => by
    obtain ⟨x0, x1⟩ := ok x List.mem_cons_self
    obtain ⟨_, _, _, s3, s4⟩ := step_in Q.W t0 t1 x0 x1
    rw [walkI_cons, walkI_cons, Q.stp t0 t1 x0 x1]
    exact Q.walk (fun y hy => ok y (List.mem_cons_of_mem _ hy)) s3 s4
theorem QK.lamp (Q : QK d T ls K m) {t : Int} (t0 : 0 ≤ t) (t1 : t < T.length) : lampI (quotL ls K m) (kAt K t) = lampI ls t := by
  obtain ⟨k0, k1⟩ := Q.lt t0 t1
  obtain ⟨c, hc⟩ : ∃ c : Nat, kAt K t = c := ⟨(kAt K t).toNat, by omega⟩
  have hcm : c < m := by omega
  obtain ⟨f1, f2⟩ := Q.first hcm
  have al := (Q.iff (by omega) (by omega) t0 t1).mp (f2.trans hc.symm) [] (fun y hy => by simp at hy)
  rw [hc, ← show lampI ls (walkI T t []) = lampI ls t from rfl, ← al]
  unfold lampI quotL
  rw [Int.toNat_natCast, List.getD_eq_getElem?_getD, List.getElem?_map, List.getElem?_range hcm]
  rfl
theorem QK.zero (Q : QK d T ls K m) : kAt K 0 = 0 := by
  obtain ⟨k0, k1⟩ := Q.lt (a := 0) (Int.le_refl 0) (by have := Q.n0; omega)
  obtain ⟨c, hc⟩ : ∃ c : Nat, kAt K 0 = c := ⟨(kAt K 0).toNat, by omega⟩
  have hcm : c < m := by omega
  by_cases z : c = 0
  · rw [hc, z]; rfl
  · exfalso
    have h1 := Q.inc (show 0 < c by omega) hcm
    have h2 := Q.first_le (t := 0) Q.n0
    rw [show ((0 : Nat) : Int) = 0 from rfl, hc] at h2
    omega
theorem QK.m0 (Q : QK d T ls K m) : 0 < m := by
  obtain ⟨k0, k1⟩ := Q.lt (a := 0) (Int.le_refl 0) (by have := Q.n0; omega)
  omega
theorem QK.lang (Q : QK d T ls K m) {w : List Int} (ok : WordOk d w) : lampI (quotL ls K m) (walkI (quotR T K m) 0 w) = lampI ls (walkI T 0 w) := by
  have n0 := Q.n0
  obtain ⟨w0, w1⟩ := walkI_in Q.W ok (Int.le_refl 0) (by omega)
  have := Q.walk ok (Int.le_refl 0) (show (0 : Int) < T.length by omega)
  rw [Q.zero] at this
  rw [this, Q.lamp w0 w1]
theorem QK.apart (Q : QK d T ls K m) {a b : Nat} (ha : a < m) (hb : b < m) (h : alike d (quotR T K m) (quotL ls K m) (a : Int) (b : Int)) : a = b := by
  obtain ⟨a1, a2⟩ := Q.first ha
  obtain ⟨b1, b2⟩ := Q.first hb
  have : alike d T ls ((K.idxOf (a : Int) : Nat) : Int) ((K.idxOf (b : Int) : Nat) : Int) := fun v ok => by
    obtain ⟨p0, p1⟩ := walkI_in Q.W ok (q := ((K.idxOf (a : Int) : Nat) : Int)) (by omega) (by omega)
    obtain ⟨q0, q1⟩ := walkI_in Q.W ok (q := ((K.idxOf (b : Int) : Nat) : Int)) (by omega) (by omega)
    have := h v ok
    rw [← a2, ← b2, Q.walk ok (by omega) (by omega), Q.walk ok (by omega) (by omega), Q.lamp p0 p1, Q.lamp q0 q1] at this
    exact this
  have := (Q.iff (by omega) (by omega) (by omega) (by omega)).mpr this
  rw [a2, b2] at this
  omega
end
end My
namespace My
/-! ### rooms in the order of their least words -/
structure Ord (d : Int) (T : List (List Int)) (LW : Nat → List Int) : Prop where
  ok : ∀ {t : Nat}, t < T.length → WordOk d (LW t) ∧ walkI T 0 (LW t) = t
  least : ∀ {w : List Int}, WordOk d w → sle (LW (walkI T 0 w).toNat) w
  inc : ∀ {t t' : Nat}, t < t' → t' < T.length → slt (LW t) (LW t')
theorem sle_anti {a b : List Int} (h : sle a b) (g : sle b a) : a = b := by
  rcases h with h | h
  · exact h
  · rcases g with g | g
    · exact g.symm
    · exact absurd g (slt_asymm h)
theorem Ord.quot {d : Int} {T : List (List Int)} {ls : List Bool} {K : List Int} {m : Nat} {LW : Nat → List Int} (Q : QK d T ls K m) (O : Ord d T LW) : Ord d (quotR T K m) (fun c => LW (K.idxOf (c : Int))) := by
  have n0 := Q.n0
  have wk : ∀ {w}, WordOk d w → walkI (quotR T K m) 0 w = kAt K (walkI T 0 w) := fun ok => by
    have := Q.walk ok (Int.le_refl 0) (show (0 : Int) < T.length by omega)
    rwa [Q.zero] at this
  refine ⟨fun {c} hc => ?_, fun {w} ok => ?_, fun {c c'} h h' => ?_⟩
  · rw [quotR_len] at hc
    obtain ⟨f1, f2⟩ := Q.first hc
    obtain ⟨o1, o2⟩ := O.ok f1
    exact ⟨o1, by rw [wk o1, o2, f2]⟩
  · obtain ⟨w0, w1⟩ := walkI_in Q.W ok (Int.le_refl 0) (show (0 : Int) < T.length by omega)
    rw [wk ok]
    obtain ⟨t, ht⟩ : ∃ t : Nat, walkI T 0 w = t := ⟨(walkI T 0 w).toNat, by omega⟩
    have hl := O.least ok
    rw [ht] at hl ⊢
    rw [Int.toNat_natCast] at hl
    have ht1 : t < T.length := by omega
    obtain ⟨k0, k1⟩ := Q.lt (a := (t : Int)) (by omega) (by omega)
    have e : (((kAt K (t : Int)).toNat : Nat) : Int) = kAt K (t : Int) := by omega
    rw [e]
    have := Q.first_le ht1
    refine sle_trans ?_ hl
    by_cases z : K.idxOf (kAt K (t : Int)) = t
    · rw [z]; exact .inl rfl
    · exact .inr (O.inc (by omega) ht1)
  · rw [quotR_len] at h'
    exact O.inc (Q.inc h h') (Q.first h').1
theorem inc_range {L : List Int} {n : Nat} (hi : ∀ (i k : Nat) x y, i < k → L[i]? = some x → L[k]? = some y → x < y) (h0 : ∀ x ∈ L, 0 ≤ x) (ha : ∀ c : Nat, c < n → (c : Int) ∈ L) : ∀ k, k < n → L[k]? = some (k : Int) := by
  have : ∀ m k, k < m → k < n → L[k]? = some (k : Int) := fun m => by
    induction m with
    | zero => intro k h; omega
    | succ m ih =>
      intro k hk hn
      by_cases hkm : k < m
      · exact ih k hkm hn
      · obtain ⟨j, hj⟩ := List.getElem?_of_mem (ha k hn)
        rcases Nat.lt_trichotomy j k with h | h | h
        · have := ih j (by omega) (by omega)
          rw [hj] at this
          have := Option.some.inj this
          omega
        · rw [← h, hj, h]
        · exfalso
          have hl := (List.getElem?_eq_some_iff.mp hj).1
          have hk2 := List.getElem?_eq_getElem (show k < L.length by omega)
          have h1 := hi k j _ _ h hk2 hj
          have h2 := h0 _ (List.mem_of_getElem? hk2)
          by_cases z : k = 0
          · omega
          · have h3 := hi (k - 1) k _ _ (by omega) (ih (k - 1) (by omega) (by omega)) hk2
            omega
  exact fun k hk => this (k + 1) k (by omega) hk
/-- then the least words are these -/
theorem Ord.bfs {d : Int} {R : List (List Int)} {LW : Nat → List Int} (O : Ord d R LW) (W : Ways d R) (h0 : 0 < R.length) : bfs R = (List.range R.length).map fun (c : Nat) => ((c : Int), LW c) := by
  have B := bfs_ok W h0
  have rng : ∀ e ∈ My.bfs R, 0 ≤ e.1 ∧ e.1 < R.length := fun e he => by
    obtain ⟨o1, o2⟩ := B.ok e he
    rw [← o2]
    exact walkI_in W o1 (Int.le_refl 0) (by omega)
  have wd : ∀ e ∈ My.bfs R, e.2 = LW e.1.toNat := fun e he => by
    obtain ⟨o1, o2⟩ := B.ok e he
    obtain ⟨r0, r1⟩ := rng e he
    have l1 := O.least o1
    rw [o2] at l1
    obtain ⟨p1, p2⟩ := O.ok (t := e.1.toNat) (by omega)
    obtain ⟨f, hf, f1, f2⟩ := bfs_least W h0 _ _ rfl p1
    have e1 : f.1 = e.1 := by rw [f1, p2]; omega
    obtain ⟨i, hi⟩ := List.getElem?_of_mem hf
    obtain ⟨k, hk⟩ := List.getElem?_of_mem he
    have fe : f = e := by
      rcases Nat.lt_trichotomy i k with h | h | h
      · exfalso
        have := List.pairwise_iff_getElem.mp B.nd i k (by rw [List.length_map]; exact (List.getElem?_eq_some_iff.mp hi).1) (by rw [List.length_map]; exact (List.getElem?_eq_some_iff.mp hk).1) h
        rw [List.getElem_map, List.getElem_map, (List.getElem?_eq_some_iff.mp hi).2, (List.getElem?_eq_some_iff.mp hk).2] at this
        exact this e1
      · rw [h, hk] at hi; exact (Option.some.inj hi).symm
      · exfalso
        have := List.pairwise_iff_getElem.mp B.nd k i (by rw [List.length_map]; exact (List.getElem?_eq_some_iff.mp hk).1) (by rw [List.length_map]; exact (List.getElem?_eq_some_iff.mp hi).1) h
        rw [List.getElem_map, List.getElem_map, (List.getElem?_eq_some_iff.mp hi).2, (List.getElem?_eq_some_iff.mp hk).2] at this
        exact this e1.symm
    subst fe
    exact sle_anti f2 l1
  have key : ∀ k, k < R.length → ((My.bfs R).map Prod.fst)[k]? = some (k : Int) := by
    refine inc_range (fun i k x y hik hx hy => ?_) (fun x hx => ?_) (fun c hc => ?_)
    · rw [List.getElem?_map] at hx hy
      obtain ⟨e, he, rfl⟩ := Option.map_eq_some_iff.mp hx
      obtain ⟨f, hf, rfl⟩ := Option.map_eq_some_iff.mp hy
      have s := B.inc i k e f hik he hf
      have re := rng e (List.mem_of_getElem? he)
      have rf := rng f (List.mem_of_getElem? hf)
      rw [wd e (List.mem_of_getElem? he), wd f (List.mem_of_getElem? hf)] at s
      apply Classical.byContradiction
      intro z
      by_cases q : e.1.toNat = f.1.toNat
      · rw [q] at s; exact slt_irrefl _ s
      · exact slt_asymm s (O.inc (t := f.1.toNat) (t' := e.1.toNat) (by omega) (by omega))
    · obtain ⟨e, he, rfl⟩ := List.mem_map.mp hx
      exact (rng e he).1
    · obtain ⟨p1, p2⟩ := O.ok hc
      obtain ⟨f, hf, f1, _⟩ := bfs_least W h0 _ _ rfl p1
      exact List.mem_map.mpr ⟨f, hf, by rw [f1, p2]⟩
  apply List.ext_getElem?
  intro k
  by_cases hk : k < R.length
  · rw [List.getElem?_map, List.getElem?_range hk]
    have h1 := key k hk
    rw [List.getElem?_map] at h1
    obtain ⟨e, he, e1⟩ := Option.map_eq_some_iff.mp h1
    rw [he]
    have := wd e (List.mem_of_getElem? he)
    rw [e1, Int.toNat_natCast] at this
    show some e = some ((k : Int), LW k)
    rw [← e1, ← this]
  · have e2 : ((List.range R.length).map fun (c : Nat) => ((c : Int), LW c))[k]? = none := List.getElem?_eq_none_iff.mpr (by simp; omega)
    rw [e2]
    apply List.getElem?_eq_none_iff.mpr
    apply Nat.le_of_not_lt
    intro z
    have h1 := List.getElem?_eq_getElem z
    have h2 := List.getElem?_eq_getElem (show R.length < (My.bfs R).length by omega)
    have hm := rng _ (List.mem_of_getElem? h2)
    have h3 := key (My.bfs R)[R.length].1.toNat (by omega)
    rw [List.getElem?_map] at h3
    obtain ⟨e, he, e1⟩ := Option.map_eq_some_iff.mp h3
    have nd := List.pairwise_iff_getElem.mp B.nd (My.bfs R)[R.length].1.toNat R.length (by rw [List.length_map]; omega) (by rw [List.length_map]; omega) (by omega)
    rw [List.getElem_map, List.getElem_map, (List.getElem?_eq_some_iff.mp he).2, e1] at nd
    omega
end My
namespace My
/-! ### only the rooms that are reached -/
def ordR (rss : List (List Int)) : List Int := (bfs rss).map Prod.fst
def ixT (rss : List (List Int)) (q : Int) : Int := ((ordR rss).idxOf q : Nat)
def trimR (rss : List (List Int)) : List (List Int) := (ordR rss).map fun r => (rss.getD r.toNat []).map (ixT rss)
def trimL (rss : List (List Int)) (ls : List Bool) : List Bool := (ordR rss).map fun r => lampI ls r
def lwR (rss : List (List Int)) (t : Nat) : List Int := ((bfs rss).getD t (0, [])).2
section
variable {d : Int} {rss : List (List Int)} {ls : List Bool}
theorem trimR_len (rss : List (List Int)) : (trimR rss).length = (ordR rss).length := by simp [trimR]
theorem trimL_len (rss : List (List Int)) (ls : List Bool) : (trimL rss ls).length = (trimR rss).length := by simp [trimL, trimR]
theorem ord_walk (W : Ways d rss) (h0 : 0 < rss.length) {w : List Int} (ok : WordOk d w) : walkI rss 0 w ∈ ordR rss := by
  obtain ⟨f, hf, f1, _⟩ := bfs_least W h0 _ _ rfl ok
  exact List.mem_map.mpr ⟨f, hf, f1⟩
theorem ord_of (W : Ways d rss) (h0 : 0 < rss.length) {r : Int} (h : r ∈ ordR rss) : ∃ w, WordOk d w ∧ walkI rss 0 w = r := by
  obtain ⟨e, he, rfl⟩ := List.mem_map.mp h
  obtain ⟨o1, o2⟩ := (bfs_ok W h0).ok e he
  exact ⟨e.2, o1, o2⟩
theorem ord_in (W : Ways d rss) (h0 : 0 < rss.length) {r : Int} (h : r ∈ ordR rss) : 0 ≤ r ∧ r < rss.length := by
  obtain ⟨w, o1, rfl⟩ := ord_of W h0 h
  exact walkI_in W o1 (Int.le_refl 0) (by omega)
theorem ord_step (W : Ways d rss) (h0 : 0 < rss.length) {r x : Int} (h : r ∈ ordR rss) (x0 : 0 ≤ x) (x1 : x < d) : step rss r x ∈ ordR rss := by
  obtain ⟨w, o1, rfl⟩ := ord_of W h0 h
  rw [← walkI_snoc]
  refine ord_walk W h0 fun y hy => ?_
  rcases List.mem_append.mp hy with hy | hy
  · exact o1 y hy
  · rw [List.mem_singleton.mp hy]; exact ⟨x0, x1⟩
theorem ix_lt {r : Int} (h : r ∈ ordR rss) : 0 ≤ ixT rss r ∧ ixT rss r < (trimR rss).length := by
  have := List.idxOf_lt_length_of_mem h
  rw [trimR_len]; unfold ixT; omega
theorem ix_get {r : Int} (h : r ∈ ordR rss) : (ordR rss)[(ixT rss r).toNat]? = some r := by
  have h1 := List.idxOf_lt_length_of_mem h
  have := List.getElem_idxOf h1
  unfold ixT
  rw [Int.toNat_natCast, List.getElem?_eq_getElem h1, this]
theorem ix_at (W : Ways d rss) (h0 : 0 < rss.length) {t : Nat} {r : Int} (h : (ordR rss)[t]? = some r) : ixT rss r = t := by
  obtain ⟨h1, h2⟩ := List.getElem?_eq_some_iff.mp h
  have nd : (ordR rss).Nodup := (bfs_ok W h0).nd
  unfold ixT
  rw [← h2, nd.idxOf_getElem]
theorem ix_zero (W : Ways d rss) (h0 : 0 < rss.length) : ixT rss 0 = 0 ∧ (0 : Int) ∈ ordR rss := by
  have h := (bfs_ok W h0).head
  have : (ordR rss)[0]? = some 0 := by unfold ordR; rw [List.getElem?_map, h]; rfl
  exact ⟨ix_at W h0 this, List.mem_of_getElem? this⟩
theorem trim_step (W : Ways d rss) (h0 : 0 < rss.length) {r x : Int} (h : r ∈ ordR rss) (x0 : 0 ≤ x) (x1 : x < d) : step (trimR rss) (ixT rss r) x = ixT rss (step rss r x) := by
  obtain ⟨r0, r1⟩ := ord_in W h0 h
  obtain ⟨row, a1, a2, _, _⟩ := step_in W r0 r1 x0 x1
  conv => lhs; unfold step
  unfold trimR
  rw [List.getD_eq_getElem?_getD (l := List.map _ _), List.getElem?_map, ix_get h]
  simp only [Option.map_some, Option.getD_some]
  rw [List.getD_eq_getElem?_getD (l := rss), a1]
  simp only [Option.getD_some]
  rw [List.getD_eq_getElem?_getD, List.getElem?_map, a2]; rfl
theorem trim_walk (W : Ways d rss) (h0 : 0 < rss.length) : ∀ {w : List Int} {r : Int}, WordOk d w → r ∈ ordR rss → walkI (trimR rss) (ixT rss r) w = ixT rss (walkI rss r w) ∧ walkI rss r w ∈ ordR rss
  | [], r, _, h => ⟨rfl, h⟩
  | x :: w, r, ok, h => by
    obtain ⟨x0, x1⟩ := ok x List.mem_cons_self
    rw [walkI_cons, walkI_cons, trim_step W h0 h x0 x1]
    exact trim_walk W h0 (fun y hy => ok y (List.mem_cons_of_mem _ hy)) (ord_step W h0 h x0 x1)
theorem trim_ways (W : Ways d rss) (h0 : 0 < rss.length) : Ways d (trimR rss) := by
  refine ⟨fun row hr => ?_⟩
  unfold trimR at hr
  obtain ⟨r, hr2, rfl⟩ := List.mem_map.mp hr
  obtain ⟨r0, r1⟩ := ord_in W h0 hr2
  have hrl : r.toNat < rss.length := by omega
  have e : rss.getD r.toNat [] = rss[r.toNat] := by rw [List.getD_eq_getElem?_getD, List.getElem?_eq_getElem hrl]; rfl
  obtain ⟨l1, _⟩ := W.row _ (List.getElem_mem hrl)
  rw [e]
  refine ⟨by rw [List.length_map]; exact l1, fun y hy => ?_⟩
  obtain ⟨q, hq, rfl⟩ := List.mem_map.mp hy
  obtain ⟨j, hj⟩ := List.getElem?_of_mem hq
  have hjl := (List.getElem?_eq_some_iff.mp hj).1
  have : q = step rss r (j : Int) := by
    unfold step
    rw [e, Int.toNat_natCast, List.getD_eq_getElem?_getD, hj]; rfl
  rw [this]
  exact ix_lt (ord_step W h0 hr2 (by omega) (by omega))
theorem trim_lamp (W : Ways d rss) (h0 : 0 < rss.length) {r : Int} (h : r ∈ ordR rss) : lampI (trimL rss ls) (ixT rss r) = lampI ls r := by
  unfold trimL
  conv => lhs; unfold lampI
  rw [List.getD_eq_getElem?_getD, List.getElem?_map, ix_get h]; rfl
theorem trim_lang (W : Ways d rss) (h0 : 0 < rss.length) {w : List Int} (ok : WordOk d w) : lampI (trimL rss ls) (walkI (trimR rss) 0 w) = lampI ls (walkI rss 0 w) := by
  obtain ⟨z1, z2⟩ := ix_zero W h0
  obtain ⟨a, b⟩ := trim_walk W h0 ok z2
  rw [z1] at a
  rw [a, trim_lamp W h0 b]
theorem trim_n0 (W : Ways d rss) (h0 : 0 < rss.length) : 0 < (trimR rss).length := by
  obtain ⟨z1, z2⟩ := ix_zero W h0
  have := ix_lt z2
  omega
theorem trim_ord (W : Ways d rss) (h0 : 0 < rss.length) : Ord d (trimR rss) (lwR rss) := by
  obtain ⟨z1, z2⟩ := ix_zero W h0
  have B := bfs_ok W h0
  have ent : ∀ {t : Nat}, t < (trimR rss).length → ∃ e, (bfs rss)[t]? = some e ∧ lwR rss t = e.2 ∧ (ordR rss)[t]? = some e.1 := fun {t} ht => by
    rw [trimR_len] at ht
    unfold ordR at ht
    rw [List.length_map] at ht
    refine ⟨_, List.getElem?_eq_getElem ht, ?_, ?_⟩
    · unfold lwR; rw [List.getD_eq_getElem?_getD, List.getElem?_eq_getElem ht]; rfl
    · unfold ordR; rw [List.getElem?_map, List.getElem?_eq_getElem ht]; rfl
  have wk : ∀ {w}, WordOk d w → walkI (trimR rss) 0 w = ixT rss (walkI rss 0 w) := fun ok => by
    have := (trim_walk W h0 ok z2).1
    rwa [z1] at this
  refine ⟨fun {t} ht => ?_, fun {w} ok => ?_, fun {t t'} h h' => ?_⟩
  · obtain ⟨e, e1, e2, e3⟩ := ent ht
    obtain ⟨o1, o2⟩ := B.ok e (List.mem_of_getElem? e1)
    rw [e2]
    exact ⟨o1, by rw [wk o1, o2]; exact ix_at W h0 e3⟩
  · rw [wk ok]
    have hm := ord_walk W h0 ok
    have hlt := ix_lt hm
    obtain ⟨e, e1, e2, e3⟩ := ent (t := (ixT rss (walkI rss 0 w)).toNat) (by omega)
    rw [ix_get hm] at e3
    have e3 := Option.some.inj e3
    obtain ⟨f, hf, f1, f2⟩ := bfs_least W h0 _ _ rfl ok
    obtain ⟨i, hi⟩ := List.getElem?_of_mem hf
    have hi2 : (ordR rss)[i]? = some f.1 := by unfold ordR; rw [List.getElem?_map, hi]; rfl
    have := ix_at W h0 hi2
    rw [f1] at this
    rw [this, Int.toNat_natCast] at e1
    rw [hi] at e1
    have e1 := Option.some.inj e1
    rw [e2, ← e1]
    exact f2
  · obtain ⟨e, e1, e2, _⟩ := ent (t := t) (by omega)
    obtain ⟨f, f1, f2, _⟩ := ent h'
    rw [e2, f2]
    exact B.inc t t' e f h e1 f1
end
/-! ### one house with the fewest rooms -/
structure Red (d : Int) (R : List (List Int)) (L : List Bool) (LW : Nat → List Int) : Prop where
  W : Ways d R
  n0 : 0 < R.length
  hl : L.length = R.length
  O : Ord d R LW
  ap : ∀ {a b : Nat}, a < R.length → b < R.length → alike d R L (a : Int) (b : Int) → a = b
theorem Red.of {d : Int} {T : List (List Int)} {ls : List Bool} {K : List Int} {m : Nat} {LW : Nat → List Int} (Q : QK d T ls K m) (O : Ord d T LW) : Red d (quotR T K m) (quotL ls K m) (fun c => LW (K.idxOf (c : Int))) where
  W := Q.ways
  n0 := by rw [quotR_len]; exact Q.m0
  hl := by rw [quotR_len, quotL_len]
  O := O.quot Q
  ap := fun {a b} ha hb h => Q.apart (by rwa [quotR_len] at ha) (by rwa [quotR_len] at hb) h

end My
namespace My
/-! ### a house that another one is like, room by room -/
end My
/-! ### max of a list of ints, index of an int, one of two rules -/
namespace L2
open PySem PySem.Spec PyProof.Rows
def tEith (t1 t2 : TE) : TE := fun σ H Q => t1 σ H Q ∨ t2 σ H Q
theorem pe_either {X : Cx} {e : Expr} {t1 t2 : TE} (h1 : PE X e t1) (h2 : PE X e t2) : PE X e (tEith t1 t2) := fun pins s σ H Q I h => h.elim (h1 pins s σ H Q I) (h2 pins s σ H Q I)
section
variable {X : Cx} {K : PySem.W.Frag}
theorem call_maxIK (K : PySem.W.Frag) (hc : X.calm = true) (hK : X.K = K := by rfl) : CallR X (.builtin "max") (fun xs H Q => ∃ (a : Addr) (ns : List Int), xs = [.ref a] ∧ SqL K H a (ns.map V.int) ∧ 0 < ns.length ∧ ∀ M, M ∈ ns → (∀ x ∈ ns, x ≤ M) → Q (.int M) H) := by
  subst hK
  intro pins s σ H xs us Q I r h
  obtain ⟨a, ns, rfl, ha, hne, q⟩ := h
  obtain ⟨u, rfl, ru⟩ := vals1 r
  cases ru
  obtain ⟨its, rv, p, _⟩ := I.list ha
  have hi := intsAre_of rv
  obtain ⟨ys, hx⟩ := hi.allInts.items
  have hns : ns = ys.toList.map (·.1) := by rw [← hi.numsOf, ← nums_intItems, ← hx]
  have hsz : 0 < ys.size := by have h3 := hne; rw [hns, List.length_map, Array.length_toList] at h3; exact h3
  refine max_intList (I.ok.hd hc) (by rw [← hx]; exact p.isList) hsz fun v h' tk hv hk => ?_
  obtain ⟨t, rfl⟩ := intItems_at hv
  obtain ⟨h1, h2⟩ := argBest_gt (numAt ys) (ys.size - 1)
  refine ⟨.int _, H, I.kept (t' := tk) hk, ⟨t, rfl⟩, q _ ?_ fun x hx' => ?_⟩
  · rw [hns, numAt_eq]; exact getD_mem (by rw [List.length_map, Array.length_toList]; omega)
  · rw [hns] at hx'
    obtain ⟨j, hj, rfl⟩ := mem_getD hx'
    rw [List.length_map, Array.length_toList] at hj
    rw [← numAt_eq]; exact h2 j (by omega)
theorem mt_indexI (K : PySem.W.Frag) (hu : X.A.units + 80 < cLine) (hK : X.K = K := by rfl) : MtR X "list.index" (fun x vs H Q => ∃ (p : Addr) (k : Int) (ns : List Int), x = .ref p ∧ vs = [.int k] ∧ SqL K H p (ns.map V.int) ∧ k ∈ ns ∧ Q (.int (ns.idxOf k : Nat)) H) := by
  subst hK
  intro pins s σ H x vs v us Q I rx rv h
  obtain ⟨p, k, ns, rfl, rfl, hp, hm, q⟩ := h
  cases rx
  obtain ⟨u, rfl, ru⟩ := vals1 rv
  obtain ⟨t, rfl⟩ := ru
  obtain ⟨its, r, pl, hz⟩ := I.list hp
  have hi := intsAre_of r
  obtain ⟨⟨cls, dd, data, sl⟩, ho, hc, n, hd⟩ := id pl.isList
  simp only at hc hd
  subst hc hd
  have hj : ns.idxOf k < ns.length := List.idxOf_lt_length_of_mem hm
  have at' : ∀ {l : List Value} {ms : List Int}, IntsAre l ms → ∀ (j : Nat) (h1 : j < l.length) (h2 : j < ms.length), isInt k l[j] = decide (ms[j] = k) := fun {l ms} q => by
    induction q with
    | nil => intro j h; simp at h
    | cons n t _ ih =>
      intro j h1 h2
      cases j with
      | zero => show (n == k) = decide (n = k); by_cases z : n = k
                · rw [z]; simp
                · rw [decide_eq_false z]; exact beq_eq_false_iff_ne.mpr z
      | succ j => exact ih j (by simpa using h1) (by simpa using h2)
  have len' : ∀ {l : List Value} {ms : List Int}, IntsAre l ms → l.length = ms.length := fun {l ms} q => by
    induction q with
    | nil => rfl
    | cons n t _ ih => simp [ih]
  have eqs : ∀ {l : List Value} {ms : List Int}, IntsAre l ms → ∀ y ∈ l, ∃ n t, y = .int n t := fun {l ms} q => by
    induction q with
    | nil => intro y hy; simp at hy
    | cons n t _ ih =>
      intro y hy
      rcases List.mem_cons.mp hy with rfl | hy
      · exact ⟨n, t, rfl⟩
      · exact ih y hy
  have hl := len' hi
  have hz' : ns.length ≤ sizeLine := by rw [List.length_map] at hz; exact hz
  refine call_meetsIn PySem.F.slot_list_index ⟨_, ho, rfl⟩ PySem.F.entry_list_index (PySem.F.args_list_index_2 _ _) ((SeqAt.list_indexAt p its.toArray n dd sl (.int k t) (isInt k) (ns.idxOf k) (by simpa [hl] using hj) (by
    have : sizeLine = 16777216 := by decide
    omega) ?_ ?_) X.prog X.w) ⟨ho, fun y hy => ?_, ?_⟩
  · simp only [List.getElem_toArray]
    rw [at' hi _ (by omega) hj, List.getElem_idxOf hj]; simp
  · intro m hm2 hlt
    have h1 : m < its.length := by simpa using hm2
    simp only [List.getElem_toArray]
    rw [at' hi m h1 (by omega)]
    have := List.not_of_lt_findIdx (p := fun x => x == k) (xs := ns) (i := m) hlt
    simpa using this
  · have hy' : y ∈ its := by simpa using hy
    obtain ⟨n', t', rfl⟩ := eqs hi y hy'
    exact SeqAt.EqAt.int_int n' t' k t
  · exact ⟨.int _, H, I.tok _, ⟨_, rfl⟩, q⟩
end
end L2
/-! ### keys that are a number and a tuple of numbers; setdefault -/
namespace PySem
open Sem (wp)
section
variable {prog : Program} {w : World} {K : Type} [DecidableEq K] {knd : HeapKind prog w K} {A : Around} {E : Value → Shared → Prop} {s : Shared}
theorem setDefault_heap {d a : Addr} {xs : List (K × Addr × Value)} {k : K} {dflt : Value} {Q : Value → Shared → Prop} (hu : knd.room A) (hkey : knd.is s.heap k a) (hm : s.heap.DictOfH knd d xs)
    (h1 : ∀ p, atKey xs k = some p → Q p.2 { s with toks := s.toks + knd.draws k })
    (h2 : atKey xs k = none → ∀ h', h'.DictOfH knd d (storedH xs k a dflt) → Heap.SameBut d s.heap h' → Q dflt { s with heap := h', toks := s.toks + knd.draws k })
    (hsz : xs.length ≤ sizeLine) : wpAny (model prog w) A (dictSetDefault d (.ref a) dflt) Q E s := by
  obtain ⟨o, es, ep, ho, hc, hd, he, his, hn⟩ := hm
  unfold dictSetDefault
  try with_reducible refine wpAny_holding ?_
  refine wpAny_bind (knd.pyHash hu hkey ?_)
  refine wpAny_bind (wpAny_dictFind_heap (s := { s with toks := s.toks + knd.draws k }) hu hkey ho hd he his hn ?_ ?_)
  · intro hno
    have hnot : k ∉ xs.map (·.1) := not_mem_keys_of_get hno
    refine wpAny_bind (wpAny_rule (wpAny_bind (wpAny_updateDictKeys (hz := by have e := size_of_entries he; omega) (s := { s with toks := s.toks + knd.draws k }) ho hd (wpAny_pure (h2 (atKey_none_of_get hno) _ ⟨_, _, ep + 1, Heap.get?_update_self _ ho (Obj.isFreed_of_dict (Obj.data_mapDictKeys hd _)),
      hc.mapDictKeys _, Obj.data_mapDictKeys hd _, ?_, ?_, ?_⟩ (Heap.SameBut.update ..))))))
    · rw [storedH_new (atKey_none_of_get hno)]
      simp [he, entryOfKey]
    · rw [storedH_new (atKey_none_of_get hno)]
      intro x hx
      rcases List.mem_append.mp hx with hx | hx
      · exact knd.keeps (his x hx) ho hd (Heap.SameBut.update ..)
      · simp only [List.mem_singleton] at hx
        subst hx
        exact knd.keeps hkey ho hd (Heap.SameBut.update ..)
    · rw [storedH_new (atKey_none_of_get hno)]
      rw [List.map_append, List.nodup_append]
      refine ⟨hn, by simp, ?_⟩
      intro x hx y hy
      simp only [List.map_cons, List.map_nil, List.mem_singleton] at hy
      subst hy
      exact fun e => hnot (e ▸ hx)
  · intro j p hj
    refine wpAny_bind (wpAny_dictEntries (s := { s with toks := s.toks + knd.draws k }) ho hd ?_)
    rw [entry_at he j, hj]
    exact wpAny_bind (wpAny_rule (wpAny_pure (h1 p (atKey_of_get hn hj))))
theorem meetsH_setdefault (d a : Addr) (hd : (d == sysModules) = false) (dflt : Value) :
    MeetsIn prog w (Builtin.«dict.setdefault» ⟨[.ref d, .ref a, dflt], []⟩) (fun A R s => knd.room A.in1 ∧ ∃ k xs, knd.is s.heap k a ∧ s.heap.DictOfH knd d xs ∧ xs.length ≤ sizeLine ∧
      (∀ p, atKey xs k = some p → R (.ok (.ret p.2)) { s with toks := s.toks + knd.draws k }) ∧
      (atKey xs k = none → ∀ h', h'.DictOfH knd d (storedH xs k a dflt) → Heap.SameBut d s.heap h' → R (.ok (.ret dflt)) { s with heap := h', toks := s.toks + knd.draws k })) :=
  .of_wp fun A R s ⟨hu, k, xs, hkey, hm, hz, h1, h2⟩ => by
    unfold Builtin.«dict.setdefault»
    refine wpAny_bind ?_
    unfold Builtin.Dict.keyAndDefault
    refine wpAny_bind (wpAny_notOrdered_dict hm.typeIs ?_)
    show wpAny _ _ (pure (d, Value.ref a, some dflt)) _ _ s
    refine wpAny_pure ?_
    show wpAny _ _ (if (d == sysModules) = true then _ else (dictSetDefault d (.ref a) dflt >>= _)) _ _ s
    rw [if_neg (by rw [hd]; exact Bool.false_ne_true)]
    exact wpAny_bind (setDefault_heap hu hkey hm (fun p hp => wpAny_pure ⟨p.2, rfl, h1 p hp⟩) (fun hn h' hm' hs' => wpAny_pure ⟨dflt, rfl, h2 hn h' hm' hs'⟩) hz)
end
/-- a tuple of a number and a tuple of numbers -/
def IsPairKey (prog : Program) (w : World) (h : Heap) (k : Int × List Int) (a : Addr) : Prop :=
  ∃ o items n v b, h.get? a = some o ∧ o.cls = .type "tuple" ∧ o.data = .seq items n ∧ items.toList = [v, .ref b] ∧ (intKind prog w).is k.1 v = true ∧ IsTupleKey (intKind prog w) h k.2 b
section
variable {prog : Program} {w : World} {A : Around} {E : Value → Shared → Prop} {s : Shared}
theorem IsPairKey.typeIs {k : Int × List Int} {a : Addr} (x : IsPairKey prog w s.heap k a) : s.TypeIs (.ref a) "tuple" := let ⟨o, _, _, _, _, ho, hc, _⟩ := x; ⟨o, ho, hc⟩
theorem IsPairKey.inj {h : Heap} {a : Addr} {x y : Int × List Int} (hx : IsPairKey prog w h x a) (hy : IsPairKey prog w h y a) : x = y := by
  obtain ⟨o, items, n, v, b, ho, _, hd, hi, h1, h2⟩ := hx
  obtain ⟨o', items', n', v', b', ho', _, hd', hi', h1', h2'⟩ := hy
  obtain rfl : o = o' := Option.some.inj (ho.symm.trans ho')
  rw [hd] at hd'
  injection hd' with e1 _
  subst e1
  rw [hi] at hi'
  simp only [List.cons.injEq, Value.ref.injEq, and_true] at hi'
  obtain ⟨rfl, rfl⟩ := hi'
  exact Prod.ext ((intKind prog w).inj _ _ _ h1 h1') (h2.inj h2')
theorem IsPairKey.keeps {h h' : Heap} {k : Int × List Int} {a d : Addr} {o : Obj} {es ep} (x : IsPairKey prog w h k a) (ho : h.get? d = some o) (hd : o.data = .dict es ep) (hs : Heap.SameBut d h h') : IsPairKey prog w h' k a := by
  obtain ⟨o', items, n, v, b, ho', hc, hd', hi, h1, h2⟩ := x
  have hne : a ≠ d := by
    rintro rfl
    obtain rfl : o' = o := Option.some.inj (ho'.symm.trans ho)
    rw [hd] at hd'; exact nomatch hd'
  exact ⟨o', items, n, v, b, (hs.2 a hne).trans ho', hc, hd', hi, h1, h2.keeps ho hd hs⟩
def pairHash (prog : Program) (w : World) (k : Int × List Int) : Int := reduceHash (Builtin.Tuple.tupleHashOf [(intKind prog w).hash k.1, tupleKeyHash (intKind prog w) k.2])
theorem pair_pyHash {k : Int × List Int} {a : Addr} {Q : Int → Shared → Prop} (hu : A.units + 8 < cLine) (hk : IsPairKey prog w s.heap k a) (h : Q (pairHash prog w k) { s with toks := s.toks + (k.2.length + 3) }) :
    wpAny (model prog w) A (pyHash (.ref a)) Q E s := by
  have hT := hk.typeIs
  obtain ⟨o, items, n, v, b, ho, _, hd, hi, hv, hb⟩ := hk
  unfold pyHash
  first | unfold pyHashByItsType | skip
  first | refine wpAny_bind (wpAny_cRoomFor_or (.inr (by omega)) ?_) | skip
  refine wpAny_bind (wpAny_specialOf hT F.slot_tuple_hash.lookup ?_)
  show wpAny _ _ (if (some (Value.builtin "tuple.__hash__") == some Value.none) = true then _ else _) Q E s
  rw [if_neg (by rw [beq_builtin_none]; exact Bool.false_ne_true)]
  refine wpAny_bind (wpAny_specialOf hT F.slot_tuple_hash.lookup ?_)
  show wpAny _ _ (callSpecialIfBoundUnlessNone? (.ref a) "__hash__" _ >>= _) Q E s
  refine wpAny_bind (wpAny_callSpecialIfBoundUnlessNone?_slot hT F.slot_tuple_hash (wpAny_call_entry F.slot_tuple_hash hT F.entry_tuple_hash ?_ (F.args_tuple_hash_1 _)))
  show wpAny _ _ (Builtin.Tuple.tupleItemsOf (.ref a) >>= _) _ _ s
  refine wpAny_bind (wpAny_tupleItemsOf ho hd ?_)
  refine wpAny_bind ?_
  rw [← Array.forIn_toList, hi]
  refine wpAny_forIn_list _
    (fun rest (c : Array Int) s' => (rest = [v, .ref b] ∧ c.toList = [] ∧ s' = s) ∨ (rest = [.ref b] ∧ c.toList = [(intKind prog w).hash k.1] ∧ s' = { s with toks := s.toks + 1 }) ∨ (rest = [] ∧ c.toList = [(intKind prog w).hash k.1, tupleKeyHash (intKind prog w) k.2] ∧ s' = { s with toks := s.toks + (k.2.length + 2) }))
    _ ?_ ?_ _ _ (.inl ⟨rfl, rfl, rfl⟩)
  · rintro x rest c s' (⟨e, hc, rfl⟩ | ⟨e, hc, rfl⟩ | ⟨e, hc, rfl⟩)
    · cases e
      refine wpAny_bind ((intKind prog w).pyHash hv ?_)
      first
        | exact wpAny_pure (.inr (.inl ⟨rfl, by simp [hc], rfl⟩))
        | exact wpAny_bind (wpAny_pure (wpAny_pure (.inr (.inl ⟨rfl, by simp [hc], rfl⟩))))
    · cases e
      refine wpAny_bind (wpAny_pyHash_tuple (s := { s with toks := s.toks + 1 }) (show _ + 1 < _ by omega) hb ?_)
      first
        | exact wpAny_pure (.inr (.inr ⟨rfl, by simp [hc], by simp; omega⟩))
        | exact wpAny_bind (wpAny_pure (wpAny_pure (.inr (.inr ⟨rfl, by simp [hc], by simp; omega⟩))))
    · cases e
  · rintro c s' (⟨e, hc, rfl⟩ | ⟨e, hc, rfl⟩ | ⟨e, hc, rfl⟩)
    · cases e
    · cases e
    · show wpAny _ _ (retInt (Builtin.Tuple.tupleHashOf c.toList)) _ _ _
      rw [hc]
      refine wpAny_ret_mkInt ?_
      generalize hg : Builtin.Tuple.tupleHashOf [(intKind prog w).hash k.1, tupleKeyHash (intKind prog w) k.2] = g
      show wpAny _ _ (if (decide (-(2 : Int) ^ 63 ≤ g) && decide (g < 2 ^ 63)) = true then _ else _) Q E _
      unfold pairHash reduceHash at h
      rw [hg] at h
      by_cases hr : (decide (-(2 : Int) ^ 63 ≤ g) && decide (g < 2 ^ 63)) = true
      · rw [if_pos hr]
        rw [if_pos hr] at h
        exact wpAny_pure (by simpa [Nat.add_assoc] using h)
      · rw [if_neg hr]
        rw [if_neg hr] at h
        exact wpAny_bind (wpAny_rule (wpAny_pure (by simpa [Nat.add_assoc] using h)))
theorem pair_eq_tree {x y : Int × List Int} {a b : Addr} {P : Fin → Shared → Prop} (hu : A.units + 8 < cLine) (hx : IsPairKey prog w s.heap x a) (hy : IsPairKey prog w s.heap y b) (h : P (.done (.ret (.bool (decide (x = y))))) s) :
    wpAny (model prog w) A (Builtin.«tuple.__eq__» ⟨[.ref a, .ref b], []⟩) P E s := by
  have hTb := hy.typeIs
  obtain ⟨oa, xs, na, va, ba, hoa, _, hda, hia, ha1, ha2⟩ := hx
  obtain ⟨ob, ys, nb, vb, bb, hob, _, hdb, hib, hb1, hb2⟩ := hy
  show wpAny _ _ (isInstance (.ref b) (.type "tuple") >>= _) _ _ s
  refine wpAny_bind (wpAny_isInstance hTb isSubtype_tuple_tuple ?_)
  simp only [Bool.not_true, Bool.false_eq_true, if_false]
  refine wpAny_bind (wpAny_tupleItemsOf hoa hda ?_)
  refine wpAny_bind (wpAny_tupleItemsOf hob hdb ?_)
  refine wpAny_bind ?_
  rw [hia, hib]
  refine wpAny_forIn_list _
    (fun rest r s' => r.1 = none ∧ s' = s ∧ ((rest = [(va, vb), (.ref ba, .ref bb)]) ∨ (rest = [(.ref ba, .ref bb)] ∧ x.1 = y.1) ∨ (rest = [] ∧ x = y)))
    _ ?_ ?_ _ _ ⟨rfl, rfl, .inl rfl⟩
  · rintro ⟨u, v⟩ rest r s' ⟨hr, rfl, e | ⟨e, e1⟩ | ⟨e, e1⟩⟩
    · cases e
      refine wpAny_bind ((intKind prog w).eqBool (a := x.1) (b := y.1) ha1 hb1 ?_)
      by_cases hk : x.1 = y.1
      · rw [decide_eq_true hk]
        simp only [Bool.not_true, Bool.false_eq_true, if_false]
        exact wpAny_pure ⟨rfl, rfl, .inr (.inl ⟨by trivial, hk⟩)⟩
      · rw [decide_eq_false hk]
        simp only [Bool.not_false, if_true]
        have hf : decide (x = y) = false := decide_eq_false fun z => hk (by rw [z])
        rw [hf] at h
        exact wpAny_bind (wpAny_pure (wpAny_pure (wpAny_pure h)))
    · cases e
      refine wpAny_bind (wpAny_eqBool_tuple (by omega) ha2 hb2 ?_)
      by_cases hk : x.2 = y.2
      · rw [decide_eq_true hk]
        simp only [Bool.not_true, Bool.false_eq_true, if_false]
        exact wpAny_pure ⟨rfl, rfl, .inr (.inr ⟨by trivial, Prod.ext e1 hk⟩)⟩
      · rw [decide_eq_false hk]
        simp only [Bool.not_false, if_true]
        have hf : decide (x = y) = false := decide_eq_false fun z => hk (by rw [z])
        rw [hf] at h
        exact wpAny_bind (wpAny_pure (wpAny_pure (wpAny_pure h)))
    · cases e
  · rintro ⟨r1, r2⟩ s' ⟨hr, rfl, e | ⟨e, e1⟩ | ⟨e, e1⟩⟩
    · cases e
    · cases e
    · simp only at hr
      subst hr
      refine wpAny_pure ?_
      have hfin : (xs.size == ys.size) = decide (x = y) := by
        rw [decide_eq_true e1, ← Array.length_toList, ← Array.length_toList, hia, hib]; rfl
      show P (.done (.ret (.bool (xs.size == ys.size)))) s'
      rw [hfin]; exact h
theorem pair_eqBool {x y : Int × List Int} {a b : Addr} {Q : Bool → Shared → Prop} (hu : A.units + 10 < cLine) (hx : IsPairKey prog w s.heap x a) (hy : IsPairKey prog w s.heap y b) (h : Q (decide (x = y)) s) :
    wpAny (model prog w) A (eqBool (.ref a) (.ref b)) Q E s := by
  unfold eqBool
  try with_reducible refine wpAny_holding ?_
  show wpAny _ _ (if (Value.ref a == Value.ref b) = true then _ else _) Q E s
  by_cases hab : (Value.ref a == Value.ref b) = true
  · rw [if_pos hab]
    have e : a = b := by have := eq_of_beq hab; injection this
    subst e
    obtain rfl := hx.inj hy
    exact wpAny_bind (wpAny_rule (wpAny_pure (by simpa using h)))
  · rw [if_neg hab]
    exact wpAny_bind (wpAny_richCompare_same_room (op := .Eq) hx.typeIs hy.typeIs F.slot_tuple_eq
      (wpAny_call_entry F.slot_tuple_eq hx.typeIs F.entry_tuple_eq (pair_eq_tree (show _ + 1 + 8 < _ by omega) hx hy ⟨_, rfl, (fun e => nomatch e), wpAny_truthy_bool h⟩) (F.args_tuple_eq_2 _ _)) (by omega))
theorem quiet_tuple {n : Nat} {ks : List Int} {a : Addr} {Q : Bool → Shared → Prop} (hk : IsTupleKey (intKind prog w) s.heap ks a) (h : Q true s) : wpAny (model prog w) A (eqIsQuiet (n + 1) (.ref a)) Q E s := by
  have hT := hk.typeIs
  obtain ⟨o, items, n, ho, _, hd, hi⟩ := hk
  unfold eqIsQuiet
  refine wpAny_bind (wpAny_specialOf hT F.slot_tuple_eq.lookup ?_)
  show wpAny _ _ (isInstance (.ref a) (.type "tuple") >>= _) _ _ s
  refine wpAny_bind (wpAny_isInstance hT isSubtype_tuple_tuple ?_)
  simp only [Bool.not_true, Bool.false_eq_true, if_false]
  refine wpAny_bind (wpAny_seqItems ho hd ?_)
  refine wpAny_bind ?_
  show wpAny _ _ (forIn items _ _) _ _ s
  rw [← Array.forIn_toList]
  refine wpAny_forIn_list _ (fun rest r s' => r.1 = none ∧ s' = s ∧ ∀ v ∈ rest, carriedByValue v = true) _ ?_ ?_ _ _ ⟨rfl, rfl, hi.byValue⟩
  · rintro v rest r s' ⟨hr, rfl, hall⟩
    rw [eqIsQuiet_byValue _ (hall v List.mem_cons_self)]
    refine wpAny_bind (wpAny_pure ?_)
    simp only [Bool.not_true, Bool.false_eq_true, if_false]
    exact wpAny_pure ⟨rfl, rfl, fun u hu' => hall u (List.mem_cons_of_mem _ hu')⟩
  · rintro ⟨r1, r2⟩ s' ⟨hr, rfl, _⟩
    simp only at hr
    subst hr
    exact wpAny_pure h
theorem pair_quiet {k : Int × List Int} {a : Addr} {Q : Bool → Shared → Prop} (hk : IsPairKey prog w s.heap k a) (h : Q true s) : wpAny (model prog w) A (eqIsQuiet 8 (.ref a)) Q E s := by
  have hT := hk.typeIs
  obtain ⟨o, items, n, v, b, ho, _, hd, hi, hv, hb⟩ := hk
  unfold eqIsQuiet
  refine wpAny_bind (wpAny_specialOf hT F.slot_tuple_eq.lookup ?_)
  show wpAny _ _ (isInstance (.ref a) (.type "tuple") >>= _) _ _ s
  refine wpAny_bind (wpAny_isInstance hT isSubtype_tuple_tuple ?_)
  simp only [Bool.not_true, Bool.false_eq_true, if_false]
  refine wpAny_bind (wpAny_seqItems ho hd ?_)
  refine wpAny_bind ?_
  show wpAny _ _ (forIn items _ _) _ _ s
  rw [← Array.forIn_toList, hi]
  refine wpAny_forIn_list _ (fun rest r s' => r.1 = none ∧ s' = s ∧ (rest = [v, .ref b] ∨ rest = [.ref b] ∨ rest = [])) _ ?_ ?_ _ _ ⟨rfl, rfl, .inl rfl⟩
  · rintro u rest r s' ⟨hr, rfl, e | e | e⟩
    · cases e
      rw [eqIsQuiet_byValue _ ((intKind prog w).byValue _ _ hv)]
      refine wpAny_bind (wpAny_pure ?_)
      simp only [Bool.not_true, Bool.false_eq_true, if_false]
      exact wpAny_pure ⟨rfl, rfl, by simp⟩
    · cases e
      refine wpAny_bind (quiet_tuple hb ?_)
      simp only [Bool.not_true, Bool.false_eq_true, if_false]
      exact wpAny_pure ⟨rfl, rfl, by simp⟩
    · cases e
  · rintro ⟨r1, r2⟩ s' ⟨hr, rfl, _⟩
    simp only at hr
    subst hr
    exact wpAny_pure h
end
def pairKind (prog : Program) (w : World) : HeapKind prog w (Int × List Int) where
  is := IsPairKey prog w
  hash := pairHash prog w
  draws := fun k => k.2.length + 3
  room := fun A => A.units + 10 < cLine
  inj := fun hx hy => hx.inj hy
  keeps := fun x ho hd hs => x.keeps ho hd hs
  pyHash := fun hu hk h => pair_pyHash (by omega) hk h
  eqBool := fun hu hx hy h => pair_eqBool hu hx hy h
  quiet := fun hk h => pair_quiet hk h
end PySem
namespace L2
open PySem PySem.Spec PyProof.Rows
theorem items_it {P : Program} {w : World} : ∀ {ks : List Int} {us : List Value}, Vals (ks.map V.int) us → ItemsAre (intKind P w) ks us
  | [], _, r => by rw [List.map_nil] at r; cases r; exact .nil
  | k :: ks, _, r => by
    rw [List.map_cons] at r
    cases r with
    | cons h t =>
      obtain ⟨tk, rfl⟩ := h
      exact .cons (intKind_is _ _ _ _) (items_it t)
/-- a number and a tuple of numbers -/
def prKD (P : Program) (w : World) : KD P w (Int × List Int) where
  kd := pairKind P w
  ok := fun H k a => ∃ b, H a = some (.tup [.int k.1, .ref b]) ∧ H b = some (.tup (k.2.map V.int))
  is := fun {H h k a} ok e => by
    obtain ⟨b, e, eb⟩ := e
    obtain ⟨_, its, r, o, h1, h2, n, h3⟩ := (show ObjOk P w H h a (.tup [.int k.1, .ref b]) from ok a _ e)
    obtain ⟨_, its2, r2, o2, g1, g2, n2, g3⟩ := (show ObjOk P w H h b (.tup (k.2.map V.int)) from ok b _ eb)
    cases r with
    | cons x1 r1 =>
      cases r1 with
      | cons x2 r3 =>
        cases r3
        obtain ⟨t, rfl⟩ := x1
        cases x2
        exact ⟨o, _, n, .int k.1 t, b, h1, h2, h3, by simp, intKind_is _ _ _ _, ⟨o2, its2.toArray, n2, g1, g2, g3, by simpa using items_it r2⟩⟩
  keep := fun ht e => by
    obtain ⟨b, e, eb⟩ := e
    exact ⟨b, ht _ _ e, ht _ _ eb⟩
  room := fun {A} hu => (show A.units + 1 + 10 < cLine by omega)
section
variable {P : Program} {w : World} {κ : Type} [DecidableEq κ] {X : Cx} {o e f : Expr} {apos cpos pos : Pos} {td ty tx : TE}
def tGSetD (D : KD P w κ) (td ty tx : TE) : TE := fun σ H Q => td σ H fun x H1 => ∃ a, x = .ref a ∧ (∃ kvs, DG D H1 a kvs) ∧ ty σ H1 fun y H2 => tx σ H2 fun z H3 => ∃ b k kvs, y = .ref b ∧ D.ok H3 k b ∧ DG D H3 a kvs ∧ kvs.length < sizeLine ∧
  (∀ v, valV kvs k = some v → Q v H3) ∧ (valV kvs k = none → ∀ H4, (∀ c, c ≠ a → H4 c = H3 c) → DG D H4 a (putK kvs k z) → Q z H4)
theorem pe_gsetd {P : Program} {w : World} (D : KD P w κ) (hu : X.A.units + 16 < cLine) (ho : PE X o td) (he : PE X e ty) (hf : PE X f tx) (m : M2 X o "setdefault" apos e f cpos) (hP : X.prog = P := by rfl) (hw : X.w = w := by rfl) : PE X (.Call (.Attribute o "setdefault" apos) [e, f] [] cpos) (tGSetD D td ty tx) := by
  subst hP hw
  intro pins s σ H Q I h
  refine wpAny_Call_method m.base m.few m.line PySem.F.plainAttrs_dict PySem.F.slot_dict_setdefault PySem.F.type_dict_setdefault (thn (ho pins s σ H _ I h) fun u s1 ⟨x, H1, I1, rx, a, ex, ⟨kvs0, xs0, f1, f2, f3, f4⟩, q1⟩ => ?_)
  subst ex
  obtain rfl : u = Value.ref a := rx
  have d0 := DG.at I1.hok f1 f2
  refine ⟨d0.typeIs, fun b q => ?_, ?_⟩
  · cases q
    obtain ⟨ob, _, _, h1, h2, _⟩ := d0
    exact ⟨ob, h1, h2.2.1⟩
  rw [m.trees]
  refine Calls.callWith_builtin rfl (Calls.evalArgs_plain (Calls.spliced_cons (thn (he pins s1 σ H1 _ I1 q1) fun iv s2 ⟨y, H2, I2, ry, q2⟩ =>
    Calls.spliced_cons (thn (hf pins s2 σ H2 _ I2 q2) fun fv s3 ⟨z, H3, I3, rz, b, k, kvs, ey, hk, ⟨xs, g1, g2, g3, g4⟩, hl, qs, qn⟩ => Calls.spliced_nil ?_))))
  subst ey
  cases ry
  have dd := DG.at I3.hok g1 g2
  have hz : xs.length ≤ sizeLine := by rw [← Paired.length g2]; exact g4
  have hl' : (putK kvs k z).length ≤ sizeLine := by have := length_putK kvs k z; omega
  have v0 := g2.val k
  refine call_meetsIn PySem.F.slot_dict_setdefault dd.typeIs PySem.F.entry_dict_setdefault (PySem.F.args_dict_setdefault_3 _ _ _) (meetsH_setdefault (knd := D.kd) a b g3 fv) ⟨D.room hu, k, xs, D.is I3.hok hk, dd, hz, fun p hp => ?_, fun hn h' dd' hs => ?_⟩
  · rw [hp] at v0
    cases hv : valV kvs k with
    | none => rw [hv] at v0; exact v0.elim
    | some v => rw [hv] at v0; exact ⟨v, H3, I3.tok _, v0, qs v hv⟩
  · rw [hn] at v0
    cases hv : valV kvs k with
    | some v => rw [hv] at v0; exact v0.elim
    | none =>
      obtain ⟨q, es, ep, hq, h2, h3, h4, _, h5⟩ := dd'
      have nt : ∀ c ys, H3 c = some (.tup ys) → (upd H3 a (.ext (DGAt D a (storedH xs k b fv)))) c = some (.tup ys) := fun c ys ec => by
        rw [upd_ne (ne_of ec g1 (fun z => nomatch z))]; exact ec
      have I4 := d_write (t' := s3.toks + D.kd.draws k) (ob := .ext (DGAt D a (storedH xs k b fv))) I3 (by rw [g1]; exact True.intro) hs ⟨q, hq⟩ (dg_ext ⟨q, es, ep, hq, h2, h3, h4, h5⟩)
      exact ⟨z, _, I4, rz, qn hv _ (fun c hc => upd_ne hc) ⟨_, upd_same, (g2.put k hk rz).keeps nt, g3, hl'⟩⟩
theorem r_gsetd {D : KD P w κ} {σ : St} {H : Hp} {Q : VK} (h : td σ H fun x H1 => ∃ a, x = .ref a ∧ (∃ kvs, DG D H1 a kvs) ∧ ty σ H1 fun y H2 => tx σ H2 fun z H3 => ∃ b k kvs, y = .ref b ∧ D.ok H3 k b ∧ DG D H3 a kvs ∧ kvs.length < sizeLine ∧
  (∀ v, valV kvs k = some v → Q v H3) ∧ (valV kvs k = none → ∀ H4, (∀ c, c ≠ a → H4 c = H3 c) → DG D H4 a (putK kvs k z) → Q z H4)) : tGSetD D td ty tx σ H Q := h
/-- dicts whose keys are truths -/
def DVAt (P : Program) (w : World) (a : Addr) (vs : List (Bool × Value)) : Heap → Prop := fun h => h.DictOf (boolKind P w) a vs
def DV (P : Program) (w : World) (H : Hp) (a : Addr) (kvs : List (Bool × V)) : Prop := ∃ vs, H a = some (.ext (DVAt P w a vs)) ∧ KV kvs vs ∧ (a == sysModules) = false ∧ kvs.length ≤ sizeLine
theorem DV.same {H H' : Hp} {a : Addr} {kvs : List (Bool × V)} (e : Same H H') (d : DV P w H a kvs) : DV P w H' a kvs := by
  obtain ⟨xs, h1, h2, h3⟩ := d
  exact ⟨xs, e _ _ h1, h2, h3⟩
theorem DV.at {H : Hp} {h : Heap} {a : Addr} {vs : List (Bool × Value)} (ok : HOk P w H h) (h1 : H a = some (.ext (DVAt P w a vs))) : h.DictOf (boolKind P w) a vs :=
  (show ObjOk P w H h a (.ext (DVAt P w a vs)) from ok a _ h1).1
theorem dv_ext {a : Addr} {vs : List (Bool × Value)} {h : Heap} (hh : DVAt P w a vs h) : DVAt P w a vs h ∧ (∃ o, h.get? a = some o) ∧ ∀ h1 h2 : Heap, DVAt P w a vs h1 → (∀ o, h1.get? a = some o → h2.get? a = some o) → DVAt P w a vs h2 := by
  refine ⟨hh, ?_, fun h1 h2 x k => ?_⟩
  · obtain ⟨o, _, _, e, _⟩ := hh; exact ⟨o, e⟩
  · obtain ⟨o, es, ep, e, r⟩ := x
    exact ⟨o, es, ep, k o e, r⟩
def tDNewV (P : Program) (w : World) : TE := fun _ H Q => ∀ p, H p = none → DV P w (upd H p (.ext (DVAt P w p []))) p [] → Q (.ref p) (upd H p (.ext (DVAt P w p [])))
theorem pe_dnewV (P : Program) (w : World) {pos : Pos} (hP : X.prog = P := by rfl) (hw : X.w = w := by rfl) : PE X (.Dict [] [] pos) (tDNewV P w) := by
  subst hP hw
  intro pins s σ H Q I h
  have hn := I.hok.fresh (Nat.le_refl s.heap.objs.size)
  have hs : (s.heap.objs.size == sysModules) = false := beq_eq_false_iff_ne.mpr (Ne.symm (Nat.ne_of_lt I.big))
  refine wpAny_Dict_empty ⟨.ref s.heap.objs.size, _, I.laid (a := s.heap.objs.size) (o := .ext (DVAt X.prog X.w s.heap.objs.size [])) (t' := s.toks) (fun _ _ q => Heap.get?_push_of_some _ q) (Nat.le_refl _) ?_, rfl, h _ hn ⟨[], upd_same, .nil, hs, Nat.zero_le _⟩⟩
  exact dv_ext ⟨_, #[], 0, Heap.get?_push_size _ rfl, ⟨rfl, rfl, rfl⟩, rfl, fun e he => by simp at he, .nil, List.nodup_nil⟩
theorem r_dnewV {σ : St} {H : Hp} {Q : VK} (h : ∀ p, H p = none → DV P w (upd H p (.ext (DVAt P w p []))) p [] → Q (.ref p) (upd H p (.ext (DVAt P w p [])))) : tDNewV P w σ H Q := h
def tVGet (P : Program) (w : World) (td ty : TE) : TE := fun σ H Q => td σ H fun x H1 => ty σ H1 fun y H2 => ∃ a k kvs v, x = .ref a ∧ y = .bl k ∧ DV P w H2 a kvs ∧ valV kvs k = some v ∧ Q v H2
theorem pe_vget (P : Program) (w : World) {i : Expr} (ho : PE X o td) (hi : PE X i ty) (hs : NoSl i) (hP : X.prog = P := by rfl) (hw : X.w = w := by rfl) : PE X (.Subscript o i pos) (tVGet P w td ty) := by
  subst hP hw
  intro pins s σ H Q I h
  refine subD_of PySem.F.slot_dict_getitem.lookup hs (thn (ho pins s σ H _ I h) fun u s1 ⟨x, H1, I1, rx, q1⟩ => thn (hi pins s1 σ H1 _ I1 q1) fun iv s2 ⟨y, H2, I2, ry, a, k, kvs, v, ex, ey, ⟨xs, g1, g2, g3, _⟩, l, q2⟩ => ?_)
  subst ex ey
  cases rx
  cases ry
  have dd := DV.at I2.hok g1
  refine ⟨dd.typeIs, ?_⟩
  obtain ⟨w', hw', rw'⟩ := RelO.some_of (v := v) (o := valueAt xs k) (by rw [← l]; exact g2.val k)
  exact wpAny_getItem_of (knd := boolKind X.prog X.w) (k := k) (by show isBoolOf k (.bool k) = true; simp [isBoolOf]) dd.mapOf hw' ⟨v, H2, I2.tok _, rw', q2⟩
theorem r_vget {σ : St} {H : Hp} {Q : VK} (h : td σ H fun x H1 => ty σ H1 fun y H2 => ∃ a k kvs v, x = .ref a ∧ y = .bl k ∧ DV P w H2 a kvs ∧ valV kvs k = some v ∧ Q v H2) : tVGet P w td ty σ H Q := h
def tVSetD (P : Program) (w : World) (td ty tx : TE) : TE := fun σ H Q => td σ H fun x H1 => ∃ a, x = .ref a ∧ (∃ kvs, DV P w H1 a kvs) ∧ ty σ H1 fun y H2 => tx σ H2 fun z H3 => ∃ k kvs, y = .bl k ∧ DV P w H3 a kvs ∧ kvs.length < sizeLine ∧
  (∀ v, valV kvs k = some v → Q v H3) ∧ (valV kvs k = none → ∀ H4, (∀ c, c ≠ a → H4 c = H3 c) → DV P w H4 a (putK kvs k z) → Q z H4)
theorem pe_vsetd (P : Program) (w : World) (ho : PE X o td) (he : PE X e ty) (hf : PE X f tx) (m : M2 X o "setdefault" apos e f cpos) (hP : X.prog = P := by rfl) (hw : X.w = w := by rfl) : PE X (.Call (.Attribute o "setdefault" apos) [e, f] [] cpos) (tVSetD P w td ty tx) := by
  subst hP hw
  intro pins s σ H Q I h
  refine wpAny_Call_method m.base m.few m.line PySem.F.plainAttrs_dict PySem.F.slot_dict_setdefault PySem.F.type_dict_setdefault (thn (ho pins s σ H _ I h) fun u s1 ⟨x, H1, I1, rx, a, ex, ⟨kvs0, xs0, f1, f2, f3, f4⟩, q1⟩ => ?_)
  subst ex
  obtain rfl : u = Value.ref a := rx
  have d0 := DV.at I1.hok f1
  refine ⟨d0.typeIs, fun b q => ?_, ?_⟩
  · cases q
    obtain ⟨ob, _, _, h1, h2, _⟩ := d0
    exact ⟨ob, h1, h2.2.1⟩
  rw [m.trees]
  refine Calls.callWith_builtin rfl (Calls.evalArgs_plain (Calls.spliced_cons (thn (he pins s1 σ H1 _ I1 q1) fun iv s2 ⟨y, H2, I2, ry, q2⟩ =>
    Calls.spliced_cons (thn (hf pins s2 σ H2 _ I2 q2) fun fv s3 ⟨z, H3, I3, rz, k, kvs, ey, ⟨xs, g1, g2, g3, g4⟩, hl, qs, qn⟩ => Calls.spliced_nil ?_))))
  subst ey
  cases ry
  have dd := DV.at I3.hok g1
  have hz : xs.length ≤ sizeLine := by rw [← Paired.length g2]; exact g4
  have hl' : (putK kvs k z).length ≤ sizeLine := by have := length_putK kvs k z; omega
  have v0 := g2.val k
  refine call_meetsIn PySem.F.slot_dict_setdefault dd.typeIs PySem.F.entry_dict_setdefault (PySem.F.args_dict_setdefault_3 _ _ _) (kt_meets_setdefault (boolKind X.prog X.w) (k := k) a (by show isBoolOf k (.bool k) = true; simp [isBoolOf]) g3 fv) ⟨xs, dd, hz, fun p hp => ?_, fun hn h' dd' hs => ?_⟩
  · rw [hp] at v0
    cases hv : valV kvs k with
    | none => rw [hv] at v0; exact v0.elim
    | some v => rw [hv] at v0; exact ⟨v, H3, I3.tok _, v0, qs v hv⟩
  · rw [hn] at v0
    cases hv : valV kvs k with
    | some v => rw [hv] at v0; exact v0.elim
    | none =>
      obtain ⟨q, es, ep, hq, _⟩ := id dd'
      have I4 := d_write (t' := s3.toks + 1) (ob := .ext (DVAt X.prog X.w a (stored xs k fv))) I3 (by rw [g1]; exact True.intro) hs ⟨q, hq⟩ (dv_ext dd')
      exact ⟨z, _, I4, rz, qn hv _ (fun c hc => upd_ne hc) ⟨_, upd_same, g2.put k rz, g3, hl'⟩⟩
theorem r_vsetd {σ : St} {H : Hp} {Q : VK} (h : td σ H fun x H1 => ∃ a, x = .ref a ∧ (∃ kvs, DV P w H1 a kvs) ∧ ty σ H1 fun y H2 => tx σ H2 fun z H3 => ∃ k kvs, y = .bl k ∧ DV P w H3 a kvs ∧ kvs.length < sizeLine ∧
  (∀ v, valV kvs k = some v → Q v H3) ∧ (valV kvs k = none → ∀ H4, (∀ c, c ≠ a → H4 c = H3 c) → DV P w H4 a (putK kvs k z) → Q z H4)) : tVSetD P w td ty tx σ H Q := h
/-- len of such a dict -/
theorem call_lenG (D : KD P w κ) (hP : X.prog = P := by rfl) (hw : X.w = w := by rfl) : CallR X (.builtin "len") (fun xs H Q => ∃ a kvs, xs = [V.ref a] ∧ DG D H a kvs ∧ Q (.int kvs.length) H) := by
  subst hP hw
  intro pins s σ H xs us Q I r h
  obtain ⟨a, kvs, rfl, ⟨ys, g1, g2, g3, g4⟩, q⟩ := h
  obtain ⟨u, rfl, ru⟩ := vals1 r
  cases ru
  have dd := DG.at I.hok g1 g2
  have e := Paired.length g2
  refine Calls.call_function_entry PySem.kind_len PySem.plain_len PySem.entry_len (PySem.args_len1 (Value.ref a)) (len_bodyH g3 dd (by rw [← e]; rw [sizeLine_eq] at g4; omega) ?_)
  rw [← e]
  exact ⟨.int kvs.length, H, I.tok _, ⟨_, rfl⟩, q⟩
theorem call_lenV (P : Program) (w : World) (hP : X.prog = P := by rfl) (hw : X.w = w := by rfl) : CallR X (.builtin "len") (fun xs H Q => ∃ a kvs, xs = [V.ref a] ∧ DV P w H a kvs ∧ Q (.int kvs.length) H) := by
  subst hP hw
  intro pins s σ H xs us Q I r h
  obtain ⟨a, kvs, rfl, ⟨ys, g1, g2, g3, g4⟩, q⟩ := h
  obtain ⟨u, rfl, ru⟩ := vals1 r
  cases ru
  have dd := DV.at I.hok g1
  have e := Paired.length g2
  refine call_len_dict g3 dd (by rw [← e]; rw [sizeLine_eq] at g4; omega) ?_
  rw [← e]
  exact ⟨.int kvs.length, H, I.tok _, ⟨_, rfl⟩, q⟩
end
end L2
set_option maxHeartbeats 1000000
namespace My
open PySem L2 PyProof.Rows
def top (i : Nat) : Stmt := PySem.Challenge.pw_askhouse_k08_whole_fewest_rooms.main.body.getD i (.Pass ⟨0, 0, 0, 0⟩)
abbrev s_check_doors : Stmt := top 7
abbrev s_check_house : Stmt := top 8
abbrev s_House_init : Stmt := inClass (top 9) 0
abbrev s_House_rooms : Stmt := inClass (top 9) 1
abbrev s_words_by_room : Stmt := top 11
abbrev s_reached : Stmt := top 12
abbrev s_with_rooms : Stmt := top 13
abbrev s_without_unreached : Stmt := top 14
abbrev s_numbered : Stmt := top 15
abbrev s_parted_further : Stmt := top 16
abbrev s_kinds_of_rooms : Stmt := top 17
abbrev s_fewest : Stmt := top 18
abbrev s_l_cell_at : Stmt := top 20
abbrev s_l_draw : Stmt := top 21
abbrev s_l_ways_by : Stmt := top 22
abbrev s_l_lamps_by : Stmt := top 23
abbrev s_l_walk : Stmt := top 24
abbrev s_l_whole : Stmt := top 25
abbrev s_l_numbers : Stmt := top 26
abbrev s_l_is_word : Stmt := top 27
abbrev s_l_truths : Stmt := top 28
abbrev s_l_house_is : Stmt := top 29
abbrev s_l_sound : Stmt := top 30
abbrev s_l_part : Stmt := top 31
abbrev s_l_least_words : Stmt := top 32
abbrev s_law : Stmt := top 33
local macro_rules | `(tactic| walk_at "sx") => `(tactic| first
  | with_reducible refine r_seq ?_ | with_reducible refine r_asg ?_ | with_reducible refine r_gname ?_ | with_reducible refine r_gsub ?_ | with_reducible refine r_drop ?_ | with_reducible refine r_ret ?_ | with_reducible refine r_ifs ?_
  | ((with_reducible refine r_var (v := ?v) ?e ?_); (case e => exact rfl))
  | with_reducible refine r_C ?_ | with_reducible refine r_op ?_ | with_reducible refine r_un ?_ | with_reducible refine r_test ?_ | with_reducible refine r_tB ?_ | with_reducible refine r_bl ?_
  | with_reducible refine r_and ?_ | with_reducible refine r_or ?_ | with_reducible refine r_not ?_ | with_reducible refine r_andV ?_ | with_reducible refine r_orV ?_ | with_reducible refine r_notV ?_ | with_reducible refine r_chain ?_
  | with_reducible refine r_call ?_ | with_reducible refine r_cb ?_ | with_reducible refine r_cons ?_ | with_reducible refine r_nil ?_ | with_reducible refine r_next ?_ | with_reducible refine r_lst ?_ | with_reducible refine r_tup ?_
  | with_reducible refine r_for ?_ | with_reducible refine r_rng1 ?_ | with_reducible refine r_rng2 ?_ | with_reducible refine r_ilist ?_ | with_reducible refine r_ienum ?_ | with_reducible refine r_izip ?_ | with_reducible refine r_listzip ?_ | with_reducible refine r_ikeysT ?_ | with_reducible refine r_comp ?_ | with_reducible refine r_bm ?_ | with_reducible refine r_meth ?_ | with_reducible refine r_make ?_ | with_reducible refine r_sfld ?_
  | with_reducible refine r_I0 ?_ | with_reducible refine r_U ?_
  | ((with_reducible refine r_I ?c ?_); (case c => first | (show (0 : Int) < _; first | assumption | decide | omega) | exact ⟨by decide, by decide⟩ | exact Or.inl ⟨by decide, by decide⟩ | exact Or.inr ⟨by decide, by decide⟩))
  | with_reducible refine r_raise ?_ | with_reducible refine r_joined ?_ | with_reducible refine r_jstr ?_ | with_reducible refine r_jnil ?_ | with_reducible refine r_jint ?_ | with_reducible refine r_try ?_
  | with_reducible refine r_bm0 ?_ | with_reducible refine r_dget ?_ | with_reducible refine r_din ?_ | with_reducible refine r_dnotin ?_ | with_reducible refine r_dput ?_ | with_reducible refine r_dnew ?_ | with_reducible refine r_sl ?_ | with_reducible refine r_nopart ?_ | with_reducible refine r_part ?_
  | with_reducible refine r_dispT ?_ | with_reducible refine r_jbl ?_ | with_reducible refine r_compI ?_ | with_reducible refine r_ifE ?_ | with_reducible refine r_tryN ?_ | with_reducible refine r_iitemsK ?_ | with_reducible refine r_tryA ?_ | with_reducible refine r_thaw ?_ | with_reducible refine r_iitems ?_ | with_reducible refine r_dget1 ?_ | with_reducible refine r_dnewT ?_
  | with_reducible refine r_slN ?_ | with_reducible refine r_dnewG ?_ | with_reducible refine r_gin ?_ | with_reducible refine r_gnotin ?_ | with_reducible refine r_gget ?_ | with_reducible refine r_gput ?_ | with_reducible refine r_sfldaug ?_
  | with_reducible refine r_snx ?_ | with_reducible refine r_srt ?_
  | with_reducible refine r_nx ?_ | with_reducible refine r_rt ?_)

theorem len_1 {α : Type} {us : List α} (h : us.length = 1) : ∃ a0, us = [a0] := List.length_eq_one_iff.mp h
theorem len_2 {α : Type} {us : List α} (h : us.length = 2) : ∃ a0 a1, us = [a0, a1] := by
  cases us with
  | nil => simp at h
  | cons a0 r =>
    obtain ⟨a1, e⟩ := len_1 (us := r) (by simpa using h)
    exact ⟨a0, a1, by rw [e]⟩
theorem len_3 {α : Type} {us : List α} (h : us.length = 3) : ∃ a0 a1 a2, us = [a0, a1, a2] := by
  cases us with
  | nil => simp at h
  | cons a0 r =>
    obtain ⟨a1, a2, e⟩ := len_2 (us := r) (by simpa using h)
    exact ⟨a0, a1, a2, by rw [e]⟩
theorem len_4 {α : Type} {us : List α} (h : us.length = 4) : ∃ a0 a1 a2 a3, us = [a0, a1, a2, a3] := by
  cases us with
  | nil => simp at h
  | cons a0 r =>
    obtain ⟨a1, a2, a3, e⟩ := len_3 (us := r) (by simpa using h)
    exact ⟨a0, a1, a2, a3, by rw [e]⟩
theorem len_5 {α : Type} {us : List α} (h : us.length = 5) : ∃ a0 a1 a2 a3 a4, us = [a0, a1, a2, a3, a4] := by
  cases us with
  | nil => simp at h
  | cons a0 r =>
    obtain ⟨a1, a2, a3, a4, e⟩ := len_4 (us := r) (by simpa using h)
    exact ⟨a0, a1, a2, a3, a4, by rw [e]⟩
theorem len_6 {α : Type} {us : List α} (h : us.length = 6) : ∃ a0 a1 a2 a3 a4 a5, us = [a0, a1, a2, a3, a4, a5] := by
  cases us with
  | nil => simp at h
  | cons a0 r =>
    obtain ⟨a1, a2, a3, a4, a5, e⟩ := len_5 (us := r) (by simpa using h)
    exact ⟨a0, a1, a2, a3, a4, a5, by rw [e]⟩
theorem ki_ib (K : PySem.W.Frag) : PySem.W.kitOne K (.type "int") (.type "bool") = some false := by
  first
  | rfl
  | (show (if (Value.type "int" == Value.type "bool") = true then some true else if PySem.W.kitMeta "bool" = true then PySem.W.subIn K (.type "int") (.type "bool") else Option.none) = some false
     rw [if_neg (by decide +kernel), if_pos (by decide +kernel)]
     first | rfl | decide +kernel | (unfold PySem.W.subIn; rfl))
/-! ### data in the heap -/
structure Mat (H : Hp) (a : Addr) (rs : List Addr) (rss : List (List Int)) : Prop where
  top : H a = some (.lst (rs.map V.ref))
  len : rs.length = rss.length
  row : ∀ (i : Nat) (r : Addr) (row : List Int), rs[i]? = some r → rss[i]? = some row → H r = some (.lst (row.map V.int))
  nd : (a :: rs).Nodup
theorem Mat.same {H H' : Hp} {a : Addr} {rs : List Addr} {rss : List (List Int)} (e : Same H H') (m : Mat H a rs rss) : Mat H' a rs rss :=
  ⟨e _ _ m.top, m.len, fun i r row h1 h2 => e _ _ (m.row i r row h1 h2), m.nd⟩
theorem Mat.get {H : Hp} {a : Addr} {rs : List Addr} {rss : List (List Int)} (m : Mat H a rs rss) {i : Nat} {row : List Int} (h : rss[i]? = some row) :
    ∃ r, rs[i]? = some r ∧ (rs.map V.ref)[i]? = some (.ref r) ∧ H r = some (.lst (row.map V.int)) := by
  obtain ⟨hi, _⟩ := List.getElem?_eq_some_iff.mp h
  have hr : i < rs.length := by rw [m.len]; exact hi
  refine ⟨rs[i], List.getElem?_eq_getElem hr, ?_, m.row i _ row (List.getElem?_eq_getElem hr) h⟩
  rw [List.getElem?_map, List.getElem?_eq_getElem hr]; rfl
theorem Mat.upd {H : Hp} {a : Addr} {rs : List Addr} {rss : List (List Int)} (m : Mat H a rs rss) {b : Addr} {o : HO} (hb : b ∉ a :: rs) : Mat (upd H b o) a rs rss := by
  refine ⟨?_, m.len, fun i r row h1 h2 => ?_, m.nd⟩
  · rw [upd_ne (fun z => hb (by rw [← z]; exact List.mem_cons_self))]; exact m.top
  · rw [upd_ne (fun z => hb (by rw [← z]; exact List.mem_cons_of_mem _ (List.mem_of_getElem? h1)))]; exact m.row i r row h1 h2
theorem Mat.mem {H : Hp} {a : Addr} {rs : List Addr} {rss : List (List Int)} (m : Mat H a rs rss) {b : Addr} (hb : b ∈ a :: rs) : ∃ o, H b = some o := by
  rcases List.mem_cons.mp hb with rfl | hb
  · exact ⟨_, m.top⟩
  · obtain ⟨i, hi⟩ := List.getElem?_of_mem hb
    obtain ⟨h1, _⟩ := List.getElem?_eq_some_iff.mp hi
    have h2 : i < rss.length := by rw [← m.len]; exact h1
    exact ⟨_, m.row i b rss[i] hi (List.getElem?_eq_getElem h2)⟩
theorem int_map_get {ns : List Int} {i : Nat} {x : Int} (h : ns[i]? = some x) : (ns.map V.int)[i]? = some (.int x) := by rw [List.getElem?_map, h]; rfl
theorem int_map_inv {ns : List Int} {i : Nat} {x : V} (h : (ns.map V.int)[i]? = some x) : ∃ n, x = .int n ∧ ns[i]? = some n := by
  rw [List.getElem?_map] at h
  cases e : ns[i]? with
  | none => rw [e] at h; cases h
  | some n => rw [e] at h; cases h; exact ⟨n, rfl, rfl⟩
theorem bl_map_inv {ns : List Bool} {i : Nat} {x : V} (h : (ns.map V.bl)[i]? = some x) : ∃ n, x = .bl n ∧ ns[i]? = some n := by
  rw [List.getElem?_map] at h
  cases e : ns[i]? with
  | none => rw [e] at h; cases h
  | some n => rw [e] at h; cases h; exact ⟨n, rfl, rfl⟩
theorem ref_map_inv {ns : List Addr} {i : Nat} {x : V} (h : (ns.map V.ref)[i]? = some x) : ∃ n, x = .ref n ∧ ns[i]? = some n := by
  rw [List.getElem?_map] at h
  cases e : ns[i]? with
  | none => rw [e] at h; cases h
  | some n => rw [e] at h; cases h; exact ⟨n, rfl, rfl⟩
/-- the fields of a house -/
def hfs (d : Int) (aw al : Addr) : List (Str × V) := putF "lamps" (.ref al) (putF "ways" (.ref aw) (putF "doors" (.int d) []))
theorem s_lw : ¬ (("lamps" : Str) = "ways") := by decide +kernel
theorem s_ld : ¬ (("lamps" : Str) = "doors") := by decide +kernel
theorem s_wd : ¬ (("ways" : Str) = "doors") := by decide +kernel
theorem hfs_doors (d : Int) (aw al : Addr) : (hfs d aw al).lookup ("doors" : Str) = some (.int d) := by
  unfold hfs; rw [lookup_putF, if_neg (fun z => s_ld z.symm), lookup_putF, if_neg (fun z => s_wd z.symm), lookup_putF, if_pos rfl]
theorem hfs_ways (d : Int) (aw al : Addr) : (hfs d aw al).lookup ("ways" : Str) = some (.ref aw) := by
  unfold hfs; rw [lookup_putF, if_neg (fun z => s_lw z.symm), lookup_putF, if_pos rfl]
theorem hfs_lamps (d : Int) (aw al : Addr) : (hfs d aw al).lookup ("lamps" : Str) = some (.ref al) := by
  unfold hfs; rw [lookup_putF, if_pos rfl]
structure HouseAt (C : Addr) (H : Hp) (p : Addr) (d : Int) (aw : Addr) (rs : List Addr) (rss : List (List Int)) (al : Addr) (ls : List Bool) : Prop where
  ob : ∃ dx, H p = some (.ins C dx (hfs d aw al))
  ways : Mat H aw rs rss
  lamps : H al = some (.lst (ls.map V.bl))
theorem HouseAt.same {C : Addr} {H H' : Hp} {p : Addr} {d : Int} {aw : Addr} {rs : List Addr} {rss : List (List Int)} {al : Addr} {ls : List Bool} (e : Same H H') (h : HouseAt C H p d aw rs rss al ls) : HouseAt C H' p d aw rs rss al ls :=
  ⟨let ⟨dx, q⟩ := h.ob; ⟨dx, e _ _ q⟩, h.ways.same e, e _ _ h.lamps⟩
/-- between two turns: the rows so far -/
structure Grown (H H' : Hp) (l : Addr) (rs : List Addr) (f : Nat → List Int) : Prop where
  top : H' l = some (.lst (rs.map V.ref))
  row : ∀ (j : Nat) (b : Addr), rs[j]? = some b → H' b = some (.lst ((f j).map V.int))
  nd : (l :: rs).Nodup
  new : ∀ b ∈ l :: rs, H b = none
  same : Same H H'
theorem Grown.start {H : Hp} {l : Addr} {f : Nat → List Int} (hl : H l = none) : Grown H (upd H l (.lst [])) l [] f :=
  ⟨upd_same, fun j b h => by simp at h, by simp, fun b hb => by rw [List.mem_singleton.mp hb]; exact hl, Same.upd_new hl⟩
theorem Grown.fresh {H H' : Hp} {l : Addr} {rs : List Addr} {f : Nat → List Int} (G : Grown H H' l rs f) {p : Addr} (hp : H' p = none) : p ∉ l :: rs := fun hm => by
  rcases List.mem_cons.mp hm with rfl | hm
  · rw [G.top] at hp; cases hp
  · obtain ⟨j, hj⟩ := List.getElem?_of_mem hm
    rw [G.row j p hj] at hp; cases hp
theorem Grown.snoc {H H' : Hp} {l p : Addr} {rs : List Addr} {f : Nat → List Int} (G : Grown H H' l rs f) (hp : H' p = none) :
    Grown H (upd (upd H' p (.lst ((f rs.length).map V.int))) l (.lst (rs.map V.ref ++ [.ref p]))) l (rs ++ [p]) f := by
  have np := G.fresh hp
  have hpl : p ≠ l := fun z => np (by rw [z]; exact List.mem_cons_self)
  have nl : l ∉ rs := (List.nodup_cons.mp G.nd).1
  refine ⟨?_, fun j b hj => ?_, ?_, fun b hb => ?_, fun b o e => ?_⟩
  · rw [upd_same, List.map_append]; rfl
  · have hbl : b ≠ l := fun z => by
      have hm := List.mem_of_getElem? hj
      rcases List.mem_append.mp hm with hm | hm
      · exact nl (z ▸ hm)
      · exact hpl ((List.mem_singleton.mp hm).symm.trans z)
    rw [upd_ne hbl]
    by_cases hlt : j < rs.length
    · rw [List.getElem?_append_left hlt] at hj
      have hbp : b ≠ p := fun z => np (List.mem_cons_of_mem _ (z ▸ List.mem_of_getElem? hj))
      rw [upd_ne hbp]; exact G.row j b hj
    · obtain ⟨hj1, _⟩ := List.getElem?_eq_some_iff.mp hj
      have hj2 : j = rs.length := by rw [List.length_append, List.length_singleton] at hj1; omega
      subst hj2
      rw [List.getElem?_append_right (Nat.le_refl _), Nat.sub_self] at hj
      cases hj
      rw [upd_same]
  · have : (l :: (rs ++ [p])).Nodup := by
      rw [← List.cons_append]
      exact nd_snoc G.nd np
    exact this
  · have hb : b ∈ (l :: rs) ++ [p] := hb
    rcases List.mem_append.mp hb with hb | hb
    · exact G.new b hb
    · rw [List.mem_singleton.mp hb]; exact G.same.free hp
  · have hbl : b ≠ l := ne_of_none e (G.new l List.mem_cons_self)
    have e' := G.same b o e
    rw [upd_ne hbl, upd_ne (ne_of_none e' hp)]
    exact e'
theorem Grown.mat {H H' : Hp} {l : Addr} {rs : List Addr} {f : Nat → List Int} (G : Grown H H' l rs f) : Mat H' l rs ((List.range rs.length).map f) :=
  ⟨G.top, by simp, fun i r row h1 h2 => by
    rw [List.getElem?_map] at h2
    obtain ⟨hi, _⟩ := List.getElem?_eq_some_iff.mp h1
    rw [List.getElem?_range hi] at h2
    cases h2
    exact G.row i r h1, G.nd⟩
theorem Grown.matOf {H H' : Hp} {l : Addr} {rs : List Addr} {rss : List (List Int)} (G : Grown H H' l rs (fun j => rss.getD j [])) (hlen : rs.length = rss.length) : Mat H' l rs rss := by
  have := G.mat
  rw [hlen] at this
  have e : (List.range rss.length).map (fun j => rss.getD j []) = rss := by
    apply List.ext_getElem
    · simp
    · intro i h1 h2
      simp [List.getD_eq_getElem?_getD, List.getElem?_eq_getElem h2]
  rw [e] at this
  exact this
/-- [list(row) for row in ways] -/
theorem comp_copy {K : PySem.W.Frag} {H : Hp} {a : Addr} {rs : List Addr} {rss : List (List Int)} {σ : L2.St} {Q : VK} (M : Mat H a rs rss) (h900 : rss.length ≤ 900)
    (q : ∀ aw rs' H', Same H H' → Mat H' aw rs' rss → (∀ b ∈ aw :: rs', H b = none) → Q (.ref aw) H') :
    CompR [none] (gName 0) (tCB (fun xs H Q => ∃ p ys, xs = [.ref p] ∧ (SqL K H p ys ∨ SqT K H p ys) ∧ ∀ l, H l = none → Q (.ref l) (upd H l (.lst ys))) (tCons (tVar 0) tNil)) σ Q (Itl K a) H := by
  refine comp_list (xs := rs.map V.ref) (fun aw i ys H' => ∃ rs', ys = rs'.map V.ref ∧ rs'.length = i ∧ Grown H H' aw rs' (fun j => rss.getD j [])) (fun aw haw => ⟨[], rfl, rfl, Grown.start haw⟩) (fun aw i ys H' haw _ p => by obtain ⟨rs', _, _, G⟩ := p; exact SqL.of (G.same _ _ M.top)) (fun aw i x ys H' haw hx p => ?_) (fun aw ys H' haw p => ?_)
  · obtain ⟨rs', rfl, hlen, G⟩ := p
    obtain ⟨r, rfl, hr'⟩ := ref_map_inv hx
    obtain ⟨hi, _⟩ := List.getElem?_eq_some_iff.mp hr'
    have hi' : i < rss.length := by rw [← M.len]; exact hi
    have hrow := M.row i r rss[i] hr' (List.getElem?_eq_getElem hi')
    have egd : rss.getD rs'.length [] = rss[i] := by rw [hlen, List.getD_eq_getElem?_getD, List.getElem?_eq_getElem hi', Option.getD_some]
    repeat walk_at "sx"
    refine ⟨Wk.set rfl, ?_⟩
    repeat walk_at "sx"
    refine ⟨r, _, rfl, .inl (SqL.of (G.same _ _ hrow)), fun l0 hl0 => ?_⟩
    have hla : aw ≠ l0 := fun z => G.fresh hl0 (by rw [z]; exact List.mem_cons_self)
    refine ⟨by rw [upd_ne hla]; exact G.top, small1000 (by simp; omega), rs' ++ [l0], by simp, by simp [hlen], ?_⟩
    have := G.snoc hl0
    rw [egd] at this
    exact this
  · obtain ⟨rs', rfl, hlen, G⟩ := p
    have hlen' : rs'.length = rss.length := by rw [hlen, List.length_map, M.len]
    refine q aw rs' H' G.same ?_ G.new
    have := G.mat
    rw [hlen'] at this
    have e : (List.range rss.length).map (fun j => rss.getD j []) = rss := by
      apply List.ext_getElem
      · simp
      · intro i h1 h2
        simp [List.getD_eq_getElem?_getD, List.getElem?_eq_getElem h2]
    rw [e] at this
    exact this

theorem dts_bl (K : PySem.W.Frag) (H : Hp) : ∀ ns : List Bool, Dts K H (ns.map V.bl) (ns.map PyData.bool)
  | [] => .nil
  | b :: r => .cons (.bl b) (dts_bl K H r)
theorem lay_bl : ∀ ns : List Bool, PyData.canLayAll0 (ns.map PyData.bool) = true
  | [] => rfl
  | _ :: r => by simp [PyData.canLayAll0, PyData.canLay0, lay_bl r]
theorem depth_bl : ∀ ns : List Bool, PyData.depthAll (ns.map PyData.bool) = 0
  | [] => rfl
  | _ :: r => by simp [PyData.depthAll, PyData.depth, depth_bl r]
theorem shaped_bl (ns : List Bool) : SeqAt.shaped (.list (ns.map PyData.bool)) = true := by
  simp [SeqAt.shaped, PyData.canLay0, PyData.depth, lay_bl, depth_bl]
theorem eqv_bl : ∀ ns : List Bool, PyData.eqvAll (ns.map PyData.bool) (ns.map PyData.bool) = true
  | [] => by simp [PyData.eqvAll]
  | b :: r => by simp [PyData.eqvAll, PyData.eqv, eqv_bl r]
/-- one row put anew -/
theorem Mat.setRow {H : Hp} {a : Addr} {rs : List Addr} {rss : List (List Int)} (m : Mat H a rs rss) {i : Nat} {r : Addr} (hr : rs[i]? = some r) (row : List Int) : Mat (L2.upd H r (.lst (row.map V.int))) a rs (rss.set i row) := by
  have hnd := List.nodup_cons.mp m.nd
  have hra : a ≠ r := fun z => hnd.1 (z ▸ List.mem_of_getElem? hr)
  refine ⟨by rw [upd_ne hra]; exact m.top, by simpa using m.len, fun j r' row' h1 h2 => ?_, m.nd⟩
  by_cases hj : i = j
  · subst hj
    rw [hr] at h1; cases h1
    rw [List.getElem?_set] at h2
    simp only [if_true] at h2
    split at h2 <;> cases h2
    exact upd_same
  · rw [List.getElem?_set_ne hj] at h2
    have hne : r' ≠ r := fun z => by
      subst z
      obtain ⟨h3, e3⟩ := List.getElem?_eq_some_iff.mp hr
      obtain ⟨h4, e4⟩ := List.getElem?_eq_some_iff.mp h1
      exact hj ((List.getElem_inj hnd.2).mp (e3.trans e4.symm))
    rw [upd_ne hne]; exact m.row j r' row' h1 h2

/-! ### the table room -> word -/
def tblKV (L : List Ent) (ks : List Addr) : List (Key × V) := (L.zip ks).map fun p => (.inl p.1.1, .ref p.2)
structure Tbl (H : Hp) (a : Addr) (L : List Ent) (ks : List Addr) : Prop where
  top : H a = some (.dK (tblKV L ks))
  len : ks.length = L.length
  row : ∀ (i : Nat) (k : Addr) (e : Ent), ks[i]? = some k → L[i]? = some e → H k = some (.lst (e.2.map V.int))
  nd : (a :: ks).Nodup
theorem tblKV_snoc {L : List Ent} {ks : List Addr} (h : ks.length = L.length) (e : Ent) (k : Addr) : tblKV (L ++ [e]) (ks ++ [k]) = tblKV L ks ++ [(.inl e.1, .ref k)] := by
  unfold tblKV
  rw [List.zip_append h.symm, List.map_append]; rfl
theorem tblKV_len {L : List Ent} {ks : List Addr} (h : ks.length = L.length) : (tblKV L ks).length = L.length := by
  unfold tblKV; simp [h]
theorem tblKV_val {L : List Ent} (nd : (L.map Prod.fst).Nodup) : ∀ {ks : List Addr} {i : Nat} {e : Ent} {k : Addr}, L[i]? = some e → ks[i]? = some k → valV (tblKV L ks) (.inl e.1 : Key) = some (.ref k) := by
  induction L with
  | nil => intro ks i e k h; simp at h
  | cons p L ih =>
    intro ks i e k h1 h2
    cases ks with
    | nil => simp at h2
    | cons c ks =>
      have nd' := List.nodup_cons.mp (show (p.1 :: L.map Prod.fst).Nodup from nd)
      cases i with
      | zero =>
        cases h1; cases h2
        exact valV_pos rfl
      | succ i =>
        have h1' : L[i]? = some e := by simpa using h1
        have h2' : ks[i]? = some k := by simpa using h2
        have hne : p.1 ≠ e.1 := fun z => nd'.1 (z ▸ List.mem_map.mpr ⟨e, List.mem_of_getElem? h1', rfl⟩)
        show valV (((Sum.inl p.1 : Key), V.ref c) :: tblKV L ks) (.inl e.1) = _
        rw [valV_neg (fun z => hne (Sum.inl.inj z))]
        exact ih nd'.2 h1' h2'
theorem tblKV_none {r : Int} : ∀ {L : List Ent} {ks : List Addr}, hasKey L r = false → valV (tblKV L ks) (.inl r : Key) = none
  | [], ks, _ => by simp [tblKV, valV]
  | p :: L, [], _ => by simp [tblKV, valV]
  | p :: L, c :: ks, h => by
    have h' : ¬ p.1 = r ∧ hasKey L r = false := by simpa [hasKey] using h
    show valV (((Sum.inl p.1 : Key), V.ref c) :: tblKV L ks) (.inl r) = _
    rw [valV_neg (fun z => h'.1 (Sum.inl.inj z))]
    exact tblKV_none h'.2
theorem tblKV_some {r : Int} : ∀ {L : List Ent} {ks : List Addr}, ks.length = L.length → hasKey L r = true → (valV (tblKV L ks) (.inl r : Key)).isSome = true
  | [], ks, _, h => by simp [hasKey] at h
  | p :: L, [], hl, _ => by simp at hl
  | p :: L, c :: ks, hl, h => by
    show (valV (((Sum.inl p.1 : Key), V.ref c) :: tblKV L ks) (.inl r)).isSome = _
    by_cases e : p.1 = r
    · rw [valV_pos (by rw [← e])]; rfl
    · rw [valV_neg (fun z => e (Sum.inl.inj z))]
      exact tblKV_some (by simpa using hl) (by simpa [hasKey, e] using h)
theorem tblKV_keys : ∀ {L : List Ent} {ks : List Addr}, ks.length = L.length → (tblKV L ks).map (fun kv => kV kv.1) = L.map fun e => V.int e.1
  | [], _, _ => by simp [tblKV]
  | p :: L, [], hl => by simp at hl
  | p :: L, c :: ks, hl => by
    show kV (.inl p.1) :: (tblKV L ks).map (fun kv => kV kv.1) = V.int p.1 :: L.map fun e => V.int e.1
    rw [tblKV_keys (by simpa using hl)]; rfl
theorem Tbl.keep {H H' : Hp} {a : Addr} {L : List Ent} {ks : List Addr} (m : Tbl H a L ks) (k : ∀ b o, b ∈ a :: ks → H b = some o → H' b = some o) : Tbl H' a L ks :=
  ⟨k _ _ List.mem_cons_self m.top, m.len, fun i r e h1 h2 => k _ _ (List.mem_cons_of_mem _ (List.mem_of_getElem? h1)) (m.row i r e h1 h2), m.nd⟩
theorem Tbl.same {H H' : Hp} {a : Addr} {L : List Ent} {ks : List Addr} (e : Same H H') (m : Tbl H a L ks) : Tbl H' a L ks := m.keep fun b o _ h => e b o h
theorem Tbl.mem {H : Hp} {a : Addr} {L : List Ent} {ks : List Addr} (m : Tbl H a L ks) {b : Addr} (hb : b ∈ a :: ks) : ∃ o, H b = some o := by
  rcases List.mem_cons.mp hb with rfl | hb
  · exact ⟨_, m.top⟩
  · obtain ⟨i, hi⟩ := List.getElem?_of_mem hb
    obtain ⟨h1, _⟩ := List.getElem?_eq_some_iff.mp hi
    have h2 : i < L.length := by rw [← m.len]; exact h1
    exact ⟨_, m.row i b L[i] hi (List.getElem?_eq_getElem h2)⟩
theorem Tbl.snoc {H H' : Hp} {a p : Addr} {L : List Ent} {ks : List Addr} (m : Tbl H a L ks) {e : Ent} (hp : p ∉ a :: ks) (top : H' a = some (.dK (tblKV L ks ++ [(.inl e.1, .ref p)]))) (hn : H' p = some (.lst (e.2.map V.int)))
    (old : ∀ b o, b ∈ ks → H b = some o → H' b = some o) : Tbl H' a (L ++ [e]) (ks ++ [p]) := by
  refine ⟨by rw [top, tblKV_snoc m.len], by simp [m.len], fun i r e' h1 h2 => ?_, ?_⟩
  · rcases Nat.lt_or_ge i ks.length with h | h
    · rw [List.getElem?_append_left h] at h1
      rw [List.getElem?_append_left (by rw [← m.len]; exact h)] at h2
      exact old _ _ (List.mem_of_getElem? h1) (m.row i r e' h1 h2)
    · have hi : i = ks.length := by
        have := (List.getElem?_eq_some_iff.mp h1).1
        simp at this; omega
      subst hi
      rw [List.getElem?_append_right (Nat.le_refl _), Nat.sub_self] at h1
      rw [List.getElem?_append_right (by rw [m.len]; exact Nat.le_refl _), m.len, Nat.sub_self] at h2
      cases h1; cases h2
      exact hn
  · have : (a :: (ks ++ [p])).Nodup := by
      rw [← List.cons_append]
      exact nd_snoc m.nd hp
    exact this

/-- w parts the two, and no word ahead of it does -/
structure Parts (d : Int) (rss rss2 : List (List Int)) (ls ls2 : List Bool) (a b : Int) (w : List Int) : Prop where
  ok : WordOk d w
  un : lampI ls (walkI rss a w) ≠ lampI ls2 (walkI rss2 b w)
  least : ∀ v, WordOk d v → slt v w → lampI ls (walkI rss a v) = lampI ls2 (walkI rss2 b v)
structure PairIn (d : Int) (rss rss2 : List (List Int)) (ls ls2 : List Bool) (a b : Int) : Prop where
  w1 : Ways d rss
  w2 : Ways d rss2
  l1 : ls.length = rss.length
  l2 : ls2.length = rss2.length
  a0 : 0 ≤ a
  a1 : a < rss.length
  b0 : 0 ≤ b
  b1 : b < rss2.length
  d1 : 1 ≤ d
  d6 : d ≤ 6
  sz : rss.length * rss2.length ≤ 100000
theorem getElem?_snoc {α : Type} {l : List α} {x y : α} {i : Nat} (h : (l ++ [x])[i]? = some y) : (i < l.length ∧ l[i]? = some y) ∨ (i = l.length ∧ y = x) := by
  rcases Nat.lt_or_ge i l.length with hl | hl
  · rw [List.getElem?_append_left hl] at h; exact .inl ⟨hl, h⟩
  · rw [List.getElem?_append_right hl] at h
    have hz : i - l.length = 0 := by
      have := (List.getElem?_eq_some_iff.mp h).1
      simp at this; omega
    rw [hz] at h
    simp at h
    exact .inr ⟨by omega, h.symm⟩
set_option genInjectivity false in
set_option genSizeOf false in
structure Adr where
  C_House : Addr
  f_check_doors : Addr
  fd_check_doors : FuncData
  f_check_house : Addr
  fd_check_house : FuncData
  f_House_init : Addr
  fd_House_init : FuncData
  f_House_rooms : Addr
  fd_House_rooms : FuncData
  f_words_by_room : Addr
  fd_words_by_room : FuncData
  f_reached : Addr
  fd_reached : FuncData
  f_with_rooms : Addr
  fd_with_rooms : FuncData
  f_without_unreached : Addr
  fd_without_unreached : FuncData
  f_numbered : Addr
  fd_numbered : FuncData
  f_parted_further : Addr
  fd_parted_further : FuncData
  f_kinds_of_rooms : Addr
  fd_kinds_of_rooms : FuncData
  f_fewest : Addr
  fd_fewest : FuncData
  f_l_cell_at : Addr
  fd_l_cell_at : FuncData
  f_l_draw : Addr
  fd_l_draw : FuncData
  f_l_ways_by : Addr
  fd_l_ways_by : FuncData
  f_l_lamps_by : Addr
  fd_l_lamps_by : FuncData
  f_l_walk : Addr
  fd_l_walk : FuncData
  f_l_whole : Addr
  fd_l_whole : FuncData
  f_l_numbers : Addr
  fd_l_numbers : FuncData
  f_l_is_word : Addr
  fd_l_is_word : FuncData
  f_l_truths : Addr
  fd_l_truths : FuncData
  f_l_house_is : Addr
  fd_l_house_is : FuncData
  f_l_sound : Addr
  fd_l_sound : FuncData
  f_l_part : Addr
  fd_l_part : FuncData
  f_l_least_words : Addr
  fd_l_least_words : FuncData
  f_law : Addr
  fd_law : FuncData
structure Txt (K : PySem.W.Frag) (mg : Str → Option Value) (t : Adr) : Prop where
  m_len : mg "len" = none
  m_range : mg "range" = none
  m_isinstance : mg "isinstance" = none
  m_list : mg "list" = none
  m_int : mg "int" = none
  m_bool : mg "bool" = none
  m_enumerate : mg "enumerate" = none
  m_max : mg "max" = none
  m_tuple : mg "tuple" = none
  m_ValueError : mg "ValueError" = none
  mg_MOST_DOORS : ∃ tk, mg "MOST_DOORS" = some (.int 6 tk)
  mg_MOST_ROOMS : ∃ tk, mg "MOST_ROOMS" = some (.int 400 tk)
  mg_House : mg "House" = some (.ref t.C_House)
  cl_House : Cls K t.C_House
  tc_House : PySem.W.findIn K (.ref t.C_House) "__class__" = some (some (.builtin "object.__class__"))
  tm_House : PySem.W.mroIn K t.C_House (.type "object") = some true
  na_House_doors : NoAttr K t.C_House "doors"
  na_House_ways : NoAttr K t.C_House "ways"
  na_House_lamps : NoAttr K t.C_House "lamps"
  tg : PySem.W.specialIn K (.builtin "object.__class__") "__get__" = some (some (.builtin "getset_descriptor.__get__"))
  tt : PySem.W.takesIn K (.builtin "object.__class__") = some true
  mg_check_doors : mg "check_doors" = some (.ref t.f_check_doors)
  F_check_doors : Fun K "check_doors" "check_doors" s_check_doors t.f_check_doors t.fd_check_doors
  mg_check_house : mg "check_house" = some (.ref t.f_check_house)
  F_check_house : Fun K "check_house" "check_house" s_check_house t.f_check_house t.fd_check_house
  F_House_init : Fun K "__init__" "House.__init__" s_House_init t.f_House_init t.fd_House_init
  mk_House : Mk K t.C_House t.f_House_init
  F_House_rooms : Fun K "rooms" "House.rooms" s_House_rooms t.f_House_rooms t.fd_House_rooms
  me_House_rooms : Meth K t.C_House "rooms" t.f_House_rooms
  mg_words_by_room : mg "words_by_room" = some (.ref t.f_words_by_room)
  F_words_by_room : Fun K "words_by_room" "words_by_room" s_words_by_room t.f_words_by_room t.fd_words_by_room
  mg_reached : mg "reached" = some (.ref t.f_reached)
  F_reached : Fun K "reached" "reached" s_reached t.f_reached t.fd_reached
  mg_with_rooms : mg "with_rooms" = some (.ref t.f_with_rooms)
  F_with_rooms : Fun K "with_rooms" "with_rooms" s_with_rooms t.f_with_rooms t.fd_with_rooms
  mg_without_unreached : mg "without_unreached" = some (.ref t.f_without_unreached)
  F_without_unreached : Fun K "without_unreached" "without_unreached" s_without_unreached t.f_without_unreached t.fd_without_unreached
  mg_numbered : mg "numbered" = some (.ref t.f_numbered)
  F_numbered : Fun K "numbered" "numbered" s_numbered t.f_numbered t.fd_numbered
  mg_parted_further : mg "parted_further" = some (.ref t.f_parted_further)
  F_parted_further : Fun K "parted_further" "parted_further" s_parted_further t.f_parted_further t.fd_parted_further
  mg_kinds_of_rooms : mg "kinds_of_rooms" = some (.ref t.f_kinds_of_rooms)
  F_kinds_of_rooms : Fun K "kinds_of_rooms" "kinds_of_rooms" s_kinds_of_rooms t.f_kinds_of_rooms t.fd_kinds_of_rooms
  mg_fewest : mg "fewest" = some (.ref t.f_fewest)
  F_fewest : Fun K "fewest" "fewest" s_fewest t.f_fewest t.fd_fewest
  mg_l_cell_at : mg "_law_cell_at" = some (.ref t.f_l_cell_at)
  F_l_cell_at : Fun K "_law_cell_at" "_law_cell_at" s_l_cell_at t.f_l_cell_at t.fd_l_cell_at
  mg_l_draw : mg "_law_draw" = some (.ref t.f_l_draw)
  F_l_draw : Fun K "_law_draw" "_law_draw" s_l_draw t.f_l_draw t.fd_l_draw
  mg_l_ways_by : mg "_law_ways_by" = some (.ref t.f_l_ways_by)
  F_l_ways_by : Fun K "_law_ways_by" "_law_ways_by" s_l_ways_by t.f_l_ways_by t.fd_l_ways_by
  mg_l_lamps_by : mg "_law_lamps_by" = some (.ref t.f_l_lamps_by)
  F_l_lamps_by : Fun K "_law_lamps_by" "_law_lamps_by" s_l_lamps_by t.f_l_lamps_by t.fd_l_lamps_by
  mg_l_walk : mg "_law_walk" = some (.ref t.f_l_walk)
  F_l_walk : Fun K "_law_walk" "_law_walk" s_l_walk t.f_l_walk t.fd_l_walk
  mg_l_whole : mg "_law_whole" = some (.ref t.f_l_whole)
  F_l_whole : Fun K "_law_whole" "_law_whole" s_l_whole t.f_l_whole t.fd_l_whole
  mg_l_numbers : mg "_law_numbers" = some (.ref t.f_l_numbers)
  F_l_numbers : Fun K "_law_numbers" "_law_numbers" s_l_numbers t.f_l_numbers t.fd_l_numbers
  mg_l_is_word : mg "_law_is_word" = some (.ref t.f_l_is_word)
  F_l_is_word : Fun K "_law_is_word" "_law_is_word" s_l_is_word t.f_l_is_word t.fd_l_is_word
  mg_l_truths : mg "_law_truths" = some (.ref t.f_l_truths)
  F_l_truths : Fun K "_law_truths" "_law_truths" s_l_truths t.f_l_truths t.fd_l_truths
  mg_l_house_is : mg "_law_house_is" = some (.ref t.f_l_house_is)
  F_l_house_is : Fun K "_law_house_is" "_law_house_is" s_l_house_is t.f_l_house_is t.fd_l_house_is
  mg_l_sound : mg "_law_sound" = some (.ref t.f_l_sound)
  F_l_sound : Fun K "_law_sound" "_law_sound" s_l_sound t.f_l_sound t.fd_l_sound
  mg_l_part : mg "_law_part" = some (.ref t.f_l_part)
  F_l_part : Fun K "_law_part" "_law_part" s_l_part t.f_l_part t.fd_l_part
  mg_l_least_words : mg "_law_least_words" = some (.ref t.f_l_least_words)
  F_l_least_words : Fun K "_law_least_words" "_law_least_words" s_l_least_words t.f_l_least_words t.fd_l_least_words
  mg_law : mg "law" = some (.ref t.f_law)
  F_law : Fun K "law" "law" s_law t.f_law t.fd_law
section
variable {P : Program} {w : World} {K : PySem.W.Frag} {mg : Str → Option Value} {base : Heap} {t : Adr}
/-! #### check_doors -/
theorem sc_check_doors : FnScope ["doors"] ["doors"] (defScope s_check_doors) := ⟨rfl, rfl, rfl, by decide +kernel, rfl, by decide +kernel, by decide +kernel⟩
theorem b_check_doors (T : Txt K mg t) : Binds K t.fd_check_doors ["doors"] [] := T.F_check_doors.binds fun _ _ _ _ _ _ us hl => by obtain ⟨_, rfl⟩ := len_1 hl; rfl
def sp_check_doors : Sp := fun vs H Q _ => ∃ d : Int, vs = [.int d] ∧ 1 ≤ d ∧ d ≤ 6 ∧ Q .non H
theorem ok_check_doors (T : Txt K mg t) : FnOk P w K mg base CX0 1 t.f_check_doors t.fd_check_doors ["doors"] (sp_check_doors) := by
  refine T.F_check_doors.ok sc_check_doors (fun vs H Q E h => ?_) (fun cdv A outer s H vs Q E hr h => ?_)
  · obtain ⟨d, rfl, _⟩ := h
    rfl
  · obtain ⟨d, rfl, hd1, hd6, q⟩ := h
    refine ⟨_, pss_one (ps_if (pt_not (pt_chain op_le op_le (pe_int) (pv 0) (pe_glob (v := .int 6) rfl T.mg_MOST_DOORS.choose_spec ⟨_, rfl⟩)))
 (pss_one (ps_never))
 (pss_nil)), ?_⟩
    repeat walk_at "sx"
    refine r_iteP (decide_eq_true hd1) ?_
    repeat walk_at "sx"
    refine r_iteN (by simp [hd6]) ?_
    repeat walk_at "sx"
    exact q
/-! #### check_house -/
theorem sc_check_house : FnScope ["doors", "ways", "lamps", "rooms", "room", "row", "way"] ["doors", "ways", "lamps"] (defScope s_check_house) := ⟨rfl, rfl, rfl, by decide +kernel, rfl, by decide +kernel, by decide +kernel⟩
theorem b_check_house (T : Txt K mg t) : Binds K t.fd_check_house ["doors", "ways", "lamps"] [] := T.F_check_house.binds fun _ _ _ _ _ _ us hl => by obtain ⟨_, _, _, rfl⟩ := len_3 hl; rfl
def sp_check_house (K : PySem.W.Frag) : Sp := fun vs H Q _ => ∃ (d : Int) (a : Addr) (rs : List Addr) (rss : List (List Int)) (l : Addr) (ls : List Bool), vs = [.int d, .ref a, .ref l] ∧ Mat H a rs rss ∧ SqL K H l (ls.map V.bl) ∧ Valid d rss ls ∧
  ∀ H', Same H H' → Q .non H'
theorem ok_check_house (T : Txt K mg t) : FnOk P w K mg base CX0 2 t.f_check_house t.fd_check_house ["doors", "ways", "lamps"] (sp_check_house K) := by
  refine T.F_check_house.ok sc_check_house (fun vs H Q E h => ?_) (fun cdv A outer s H vs Q E hr h => ?_)
  · obtain ⟨d, a, rs, rss, l, ls, rfl, _⟩ := h
    rfl
  · obtain ⟨d, a, rs, rss, l, ls, rfl, M, hL, Vd, q⟩ := h
    have hd1 := Vd.d1
    have hd6 := Vd.d6
    have hr1 := Vd.r1
    have hr4 := Vd.r400
    have hll := Vd.ll
    have hlen : (rs.map V.ref).length = rss.length := by rw [List.length_map, M.len]
    refine ⟨_, pss_cons (ps_expr (pe_call (ok_check_doors T) (hr.mono (by decide)) rfl T.mg_check_doors T.F_check_doors.kp (b_check_doors T) .nil pass0 (pa_cons (pv 0) (pa_nil))))
 (pss_cons (ps_set (i := 3) sc_check_house.nd rfl (Or.inl rfl) (pe_callB (call_len_seqK K) rfl T.m_len PySem.boot_len (pa_cons (pv 1) (pa_nil))))
 (pss_cons (ps_if (pt_not (pt_chain op_le op_le (pe_int) (pv 3) (pe_glob (v := .int 400) rfl T.mg_MOST_ROOMS.choose_spec ⟨_, rfl⟩)))
 (pss_one (ps_never))
 (pss_nil))
 (pss_cons (ps_if (pt_cmpR op_ne (pe_callB (call_len_seqK K) rfl T.m_len PySem.boot_len (pa_cons (pv 2) (pa_nil))) (pv 3) (nomark _))
 (pss_one (ps_never))
 (pss_nil))
 (pss_one (ps_for PassesOwn.never rfl (pi_enumK K rfl T.m_enumerate (pa_cons (pv 1) (pa_nil))) (pg_tupK K (n := 2) rfl (pgs_cons (pg_name (i := 4) sc_check_house.nd rfl (Or.inl rfl)) (pgs_cons (pg_name (i := 5) sc_check_house.nd rfl (Or.inl rfl)) (pgs_nil))))
 (pss_cons (ps_if (pt_cmpR op_ne (pe_callB (call_len_seqK K) rfl T.m_len PySem.boot_len (pa_cons (pv 5) (pa_nil))) (pv 0) (nomark _))
 (pss_one (ps_never))
 (pss_nil))
 (pss_one (ps_for PassesOwn.never rfl (pi_listK K (pv 5)) (pg_name (i := 6) sc_check_house.nd rfl (Or.inl rfl))
 (pss_one (ps_if (pt_not (pt_chain op_le op_lt (pe_int) (pv 6) (pv 3)))
 (pss_one (ps_never))
 (pss_nil))))))))))), ?_⟩
    repeat walk_at "sx"
    refine ⟨d, rfl, hd1, hd6, ?_⟩
    repeat walk_at "sx"
    refine ⟨a, _, rfl, .inl (SqL.of M.top), ?_⟩
    rw [hlen]
    repeat walk_at "sx"
    refine r_iteP (decide_eq_true (by omega)) ?_
    repeat walk_at "sx"
    refine r_iteN (by simp; omega) ?_
    repeat walk_at "sx"
    refine ⟨l, _, rfl, .inl hL, ?_⟩
    repeat walk_at "sx"
    refine r_ne rfl ?_
    repeat walk_at "sx"
    refine r_iteN (by simp [hll]) ?_
    repeat walk_at "sx"
    refine ⟨a, rfl, ⟨_, SqL.of M.top⟩, ?_⟩
    refine for_enum (xs := rs.map V.ref) (fun i σ H' => Same H H' ∧ ∃ k1 k2 k3, σ = [some (.int d), some (.ref a), some (.ref l), some (.int (rss.length : Int)), k1, k2, k3]) ⟨Same.refl H, none, none, none, rfl⟩ (fun i σ H' _ p => sqL_same p.1 (SqL.of M.top)) (fun i x σ H' tp hx p ht => ?_) (fun σ H' p => ?_)
    · obtain ⟨hs, k1, k2, k3, rfl⟩ := p
      obtain ⟨r, rfl, hr'⟩ := ref_map_inv hx
      obtain ⟨hi, _⟩ := List.getElem?_eq_some_iff.mp hr'
      have hi' : i < rss.length := by rw [← M.len]; exact hi
      have hrow := M.row i r rss[i] hr' (List.getElem?_eq_getElem hi')
      have hs' : Same H (upd H' tp (.tup [.int (i : Int), .ref r])) := hs.trans (Same.upd_new ht)
      obtain ⟨hw1, hw2⟩ := Vd.row rss[i] (List.getElem_mem hi')
      refine ⟨tp, _, rfl, SqT.of upd_same, rfl, _, _, rfl, ?_⟩
      repeat walk_at "sx"
      refine ⟨_, _, rfl, ?_⟩
      repeat walk_at "sx"
      refine ⟨rfl, ?_⟩
      repeat walk_at "sx"
      refine ⟨r, _, rfl, .inl (SqL.of (hs' _ _ hrow)), ?_⟩
      repeat walk_at "sx"
      refine r_ne rfl ?_
      repeat walk_at "sx"
      refine r_iteN (by simp [hw1]) ?_
      repeat walk_at "sx"
      refine ⟨r, rfl, ⟨_, SqL.of (hs' _ _ hrow)⟩, ?_⟩
      refine for_list (xs := rss[i].map V.int) (fun j σ H2 => H2 = upd H' tp (.tup [.int (i : Int), .ref r]) ∧ ∃ k3, σ = [some (.int d), some (.ref a), some (.ref l), some (.int (rss.length : Int)), some (.int (i : Int)), some (.ref r), k3]) ⟨rfl, _, rfl⟩ (fun j σ H2 _ p => by rw [p.1]; exact SqL.of (hs' _ _ hrow)) (fun j x σ H2 hx p => ?_) (fun σ H2 p => ?_)
      · obtain ⟨rfl, k3, rfl⟩ := p
        have hx0 := int_map_inv hx
        clear hx
        obtain ⟨x, rfl, hx⟩ := hx0
        obtain ⟨x0, x1⟩ := hw2 x (List.mem_of_getElem? hx)
        repeat walk_at "sx"
        refine r_iteP (decide_eq_true x0) ?_
        repeat walk_at "sx"
        refine r_iteN (by simp [x1]) ?_
        repeat walk_at "sx"
        exact ⟨rfl, _, rfl⟩
      · obtain ⟨rfl, k3, rfl⟩ := p
        exact ⟨hs', _, _, _, rfl⟩
    · obtain ⟨hs, k1, k2, k3, rfl⟩ := p
      exact q H' hs
/-! #### House_init -/
theorem sc_House_init : FnScope ["self", "doors", "ways", "lamps"] ["self", "doors", "ways", "lamps"] (defScope s_House_init) := ⟨rfl, rfl, rfl, by decide +kernel, rfl, by decide +kernel, by decide +kernel⟩
theorem b_House_init (T : Txt K mg t) : Binds K t.fd_House_init ["self", "doors", "ways", "lamps"] [] := T.F_House_init.binds fun _ _ _ _ _ _ us hl => by obtain ⟨_, _, _, _, rfl⟩ := len_4 hl; rfl
def sp_House_init (K : PySem.W.Frag) (C : Addr) : Sp := fun vs H Q _ => ∃ (p dx : Addr) (d : Int) (a : Addr) (rs : List Addr) (rss : List (List Int)) (l : Addr) (ls : List Bool), vs = [.ref p, .int d, .ref a, .ref l] ∧ H p = some (.ins C dx []) ∧ Mat H a rs rss ∧ SqL K H l (ls.map V.bl) ∧ Valid d rss ls ∧
  ∀ (H' : Hp) (aw : Addr) (rs' : List Addr) (al : Addr), HouseAt C H' p d aw rs' rss al ls → (∀ b o, H b = some o → b ≠ p → H' b = some o) → (∀ b ∈ al :: aw :: rs', H b = none) → Q .non H'
theorem ok_House_init (T : Txt K mg t) : FnOk P w K mg base CX0 3 t.f_House_init t.fd_House_init ["self", "doors", "ways", "lamps"] (sp_House_init K t.C_House) := by
  refine T.F_House_init.ok sc_House_init (fun vs H Q E h => ?_) (fun cdv A outer s H vs Q E hr h => ?_)
  · obtain ⟨p, dx, d, a, rs, rss, l, ls, rfl, _⟩ := h
    rfl
  · obtain ⟨p, dx, d, a, rs, rss, l, ls, rfl, hp, M, hL, Vd, q⟩ := h
    refine ⟨_, pss_cons (ps_expr (pe_call (ok_check_house T) (hr.mono (by decide)) rfl T.mg_check_house T.F_check_house.kp (b_check_house T) .nil pass0 (pa_cons (pv 1) (pa_cons (pv 2) (pa_cons (pv 3) (pa_nil))))))
 (pss_cons (ps_fldK K (pv 0) (pv 1) rfl)
 (pss_cons (ps_fldK K (pv 0) (pe_comp (N := ["self", "doors", "ways", "lamps"]) (sc0 := (defScope s_House_init)) (N' := ["row"]) (caps := [none]) (by exact ⟨rfl, by decide +kernel, by decide +kernel, by decide +kernel, rfl, rfl, by decide +kernel⟩) rfl (pi_listK K (pv 2)) (fun _ _ _ _ _ _ => pg_name (i := 0) (show List.Nodup (["row"] : List Str) from by decide +kernel) rfl (Or.inl rfl)) (fun _ _ _ _ _ _ => pe_callTy (call_list_ofK K) rfl T.m_list boot_list (pa_cons (pv 0) (pa_nil)))) rfl)
 (pss_one (ps_fldK K (pv 0) (pe_callTy (call_list_ofK K) rfl T.m_list boot_list (pa_cons (pv 3) (pa_nil))) rfl)))), ?_⟩
    repeat walk_at "sx"
    refine ⟨d, a, rs, rss, l, ls, rfl, M, hL, Vd, fun H1 hs1 => ?_⟩
    repeat walk_at "sx"
    refine ⟨p, _, dx, _, rfl, hs1 _ _ hp, T.cl_House, T.na_House_doors, (by show 0 < 1000; decide), ?_⟩
    repeat walk_at "sx"
    -- the heap with the first field stored
    have hpa : ∀ {b : Addr} {xs : List V}, H b = some (.lst xs) → b ≠ p := fun e => ne_of e hp (by intro z; cases z)
    have k1 : ∀ (b : Addr) (o : HO), H b = some o → b ≠ p → (upd H1 p (.ins t.C_House dx (putF "doors" (.int d) []))) b = some o := fun b o e hb => by rw [upd_ne hb]; exact hs1 b o e
    have n1 : ∀ b, (upd H1 p (.ins t.C_House dx (putF "doors" (.int d) []))) b = none → H b = none := fun b e => by
      by_cases hb : b = p
      · subst hb; rw [upd_same] at e; cases e
      · rw [upd_ne hb] at e; exact hs1.free e
    generalize hH2 : upd H1 p (.ins t.C_House dx (putF "doors" (.int d) [])) = H2 at k1 n1 ⊢
    have hp2 : H2 p = some (.ins t.C_House dx (putF "doors" (.int d) [])) := by rw [← hH2]; exact upd_same
    have M2 : Mat H2 a rs rss := ⟨k1 _ _ M.top (hpa M.top), M.len, fun i r row h1 h2 => k1 _ _ (M.row i r row h1 h2) (hpa (M.row i r row h1 h2)), M.nd⟩
    refine ⟨a, rfl, ⟨_, SqL.of M2.top⟩, ?_⟩
    have h400 := Vd.r400
    refine comp_copy M2 (by omega) fun aw rs' H' hs3 M3 new3 => ?_
    have G : Same H2 H' := hs3
    (
      have hp3 : H' p = some (.ins t.C_House dx (putF "doors" (.int d) [])) := G _ _ hp2
      repeat walk_at "sx"
      refine ⟨p, _, dx, _, rfl, hp3, T.cl_House, T.na_House_ways, (by show 1 < 1000; decide), ?_⟩
      repeat walk_at "sx"
      have hl3 : SqL K H l (ls.map V.bl) := hL
      have hlist : SqL K (upd H' p (.ins t.C_House dx (putF "ways" (.ref aw) (putF "doors" (.int d) [])))) l (ls.map V.bl) := by
        rcases hL with (hL | ⟨ob, hL⟩) | hL
        · exact .inl (.inl (by rw [upd_ne (hpa hL)]; exact G _ _ (k1 _ _ hL (hpa hL))))
        · have hne : l ≠ p := ne_of hL hp (by intro z; cases z)
          exact .inl (.inr ⟨ob, by rw [upd_ne hne]; exact G _ _ (k1 _ _ hL hne)⟩)
        · exact .inr hL
      refine ⟨l, _, rfl, .inl hlist, fun al hal => ?_⟩
      repeat walk_at "sx"
      have npa : p ≠ al := fun z => by rw [z, upd_same] at hal; cases hal
      have hal' : H' al = none := by rw [upd_ne (Ne.symm npa)] at hal; exact hal
      refine ⟨p, _, dx, _, rfl, (by rw [upd_ne npa]; exact upd_same), T.cl_House, T.na_House_lamps, (by have h1 := length_putF "ways" (.ref aw) (putF "doors" (.int d) []); have h2 := length_putF "doors" (.int d) []; simp only [List.length_nil] at h2; omega), ?_⟩
      have hpm : p ∉ aw :: rs' := fun hm => by have := new3 p hm; rw [hp2] at this; cases this
      have ham : al ∉ aw :: rs' := fun hm => by obtain ⟨o, e⟩ := M3.mem hm; rw [e] at hal'; cases hal'
      refine q _ aw rs' al ⟨⟨dx, upd_same⟩, ((M3.upd hpm).upd ham).upd hpm, ?_⟩ (fun b o e hb => ?_) (fun b hb => ?_)
      · rw [upd_ne (Ne.symm npa), upd_same]
      · have e2 := G _ _ (k1 b o e hb)
        rw [upd_ne hb, upd_ne (ne_of_none e2 hal'), upd_ne hb]
        exact e2
      · rcases List.mem_cons.mp hb with rfl | hb
        · exact n1 _ (G.free hal')
        · exact n1 _ (new3 b hb)
    )
/-! #### House_rooms -/
/-! #### words_by_room -/
theorem sc_words_by_room : FnScope ["house", "words", "rooms", "at", "room", "door", "way"] ["house"] (defScope s_words_by_room) := ⟨rfl, rfl, rfl, by decide +kernel, rfl, by decide +kernel, by decide +kernel⟩
theorem b_words_by_room (T : Txt K mg t) : Binds K t.fd_words_by_room ["house"] [] := T.F_words_by_room.binds fun _ _ _ _ _ _ us hl => by obtain ⟨_, rfl⟩ := len_1 hl; rfl
def sp_words_by_room (C : Addr) : Sp := fun vs H Q _ => ∃ (p : Addr) (d : Int) (aw : Addr) (rs : List Addr) (rss : List (List Int)) (al : Addr) (ls : List Bool), vs = [.ref p] ∧ HouseAt C H p d aw rs rss al ls ∧ Valid d rss ls ∧
  ∀ (H' : Hp) (wd : Addr) (ks : List Addr), Same H H' → Tbl H' wd (bfs rss) ks → (∀ b ∈ wd :: ks, H b = none) → Q (.ref wd) H'
structure WB (H H' : Hp) (wd ra : Addr) (L : List Ent) (ks : List Addr) : Prop where
  same : Same H H'
  tbl : Tbl H' wd L ks
  rooms : H' ra = some (.lst (L.map fun e => V.int e.1))
  new : ∀ b ∈ wd :: ks, H b = none
  nra : H ra = none
  out : ra ∉ wd :: ks
theorem WB.tick {H H' H2 : Hp} {wd ra : Addr} {L : List Ent} {ks : List Addr} (B : WB H H' wd ra L ks) (s : Same H' H2) : WB H H2 wd ra L ks :=
  ⟨B.same.trans s, B.tbl.same s, s _ _ B.rooms, B.new, B.nra, B.out⟩
theorem WB.add {H H1 H3 : Hp} {wd ra p2 : Addr} {L : List Ent} {ks : List Addr} (B : WB H H1 wd ra L ks) (s : Same H1 H3) {e : Ent} (hf : H1 p2 = none) (hp : H3 p2 = some (.lst (e.2.map V.int))) :
    WB H (upd (upd H3 wd (.dK (tblKV L ks ++ [(.inl e.1, .ref p2)]))) ra (.lst ((L.map fun e => V.int e.1) ++ [.int e.1]))) wd ra (L ++ [e]) (ks ++ [p2]) := by
  have B3 := B.tick s
  have hpm : p2 ∉ wd :: ks := fun hm => by obtain ⟨o, z⟩ := B.tbl.mem hm; rw [hf] at z; cases z
  have hpr : p2 ≠ ra := fun z => by have := B.rooms; rw [← z, hf] at this; cases this
  have hwr : wd ≠ ra := fun z => B.out (by rw [z]; exact List.mem_cons_self)
  have hwp : p2 ≠ wd := fun z => hpm (by rw [z]; exact List.mem_cons_self)
  have hnd := List.nodup_cons.mp B.tbl.nd
  refine ⟨(B3.same.upd_fresh (B.new wd List.mem_cons_self)).upd_fresh B.nra, B3.tbl.snoc hpm ?_ ?_ (fun b o hb e => ?_), ?_, fun b hb => ?_, B.nra, ?_⟩
  · rw [upd_ne hwr, upd_same]
  · rw [upd_ne hpr, upd_ne hwp]; exact hp
  · rw [upd_ne (fun z => B.out (by rw [← z]; exact List.mem_cons_of_mem _ hb)), upd_ne (fun z => hnd.1 (by rw [← z]; exact hb))]; exact e
  · rw [upd_same, List.map_append]; rfl
  · have hb : b ∈ (wd :: ks) ++ [p2] := hb
    rcases List.mem_append.mp hb with hb | hb
    · exact B.new b hb
    · rw [List.mem_singleton.mp hb]; exact B.same.free hf
  · intro hm
    have hm : ra ∈ (wd :: ks) ++ [p2] := hm
    rcases List.mem_append.mp hm with hm | hm
    · exact B.out hm
    · exact hpr (List.mem_singleton.mp hm).symm
theorem ok_words_by_room (T : Txt K mg t) : FnOk P w K mg base CX0 2 t.f_words_by_room t.fd_words_by_room ["house"] (sp_words_by_room t.C_House) := by
  refine T.F_words_by_room.ok sc_words_by_room (fun vs H Q E h => ?_) (fun cdv A outer s H vs Q E hr h => ?_)
  · obtain ⟨p, d, aw, rs, rss, al, ls, rfl, _⟩ := h
    rfl
  · obtain ⟨p, d, aw, rs, rss, al, ls, rfl, hh, Vd, q⟩ := h
    obtain ⟨dx, ho⟩ := hh.ob
    have Wy := Vd.toWays
    have h0 : 0 < rss.length := Vd.r1
    have h400 := Vd.r400
    refine exO (pssO_consD (i := 1) sc_words_by_room.nd rfl (Or.inl rfl) (pe_int) (pe_lst (pa_nil))
 (pss_cons (ps_set (i := 2) sc_words_by_room.nd rfl (Or.inl rfl) (pe_lst (pa_cons (pe_int) (pa_nil))))
 (pss_cons (ps_set (i := 3) sc_words_by_room.nd rfl (Or.inl rfl) (pe_int))
 (pss_cons (ps_while PassesOwn.never (pt_cmpR op_lt (pv 3) (pe_callB (call_len_seqK K) rfl T.m_len PySem.boot_len (pa_cons (pv 2) (pa_nil))) (nomark _))
 (pss_cons (ps_set (i := 4) sc_words_by_room.nd rfl (Or.inl rfl) (pe_ix (ix_listK K) (pv 2) (pv 3) (fun _ _ => rfl)))
 (pss_cons (ps_for PassesOwn.never rfl (pi_enumK K rfl T.m_enumerate (pa_cons (pe_ix (ix_listK K) (pe_fldK K (pv 0) rfl) (pv 4) (fun _ _ => rfl)) (pa_nil))) (pg_tupK K (n := 2) rfl (pgs_cons (pg_name (i := 5) sc_words_by_room.nd rfl (Or.inl rfl)) (pgs_cons (pg_name (i := 6) sc_words_by_room.nd rfl (Or.inl rfl)) (pgs_nil))))
 (pss_one (ps_join (ps_if (pt_cmp (pc_dnotin hr.units1 (pv 6) (pv 1)))
 (pss_cons (ps_dput hr.units1 (pv 1) (pv 6) (pe_op op_cat (pe_dget hr.units1 (pv 1) (pv 4) (fun _ _ => rfl)) (pe_lst (pa_cons (pv 5) (pa_nil)))) rfl)
 (pss_one (ps_expr (pe_bmK K PySem.F.plainAttrs_list PySem.F.slot_list_append PySem.F.type_list_append mt_append (pv 2) (pa_cons (pv 6) (pa_nil))))))
 (pss_nil)))))
 (pss_one (ps_aug (i := 3) sc_words_by_room.nd rfl (Or.inl rfl) (pe_int) ip_add)))))
 (pss_one (ps_ret (pv 1))))))) ?_
    repeat walk_at "sx"
    intro wd hwd
    show tC _ _ _ _
    repeat walk_at "sx"
    refine ⟨Nat.zero_le _, fun w0 hw0 => ?_⟩
    have hww : wd ≠ w0 := fun z => by rw [← z, upd_same] at hw0; cases hw0
    refine ⟨by rw [upd_ne hww]; exact upd_same, [(.inl 0, .ref w0)], rfl, (by show 1 ≤ 15; decide), ?_⟩
    repeat walk_at "sx"
    refine ⟨by show 1 ≤ sizeLine; decide, fun ra hra => ?_⟩
    have e3 : mergeK [] [((.inl 0 : Key), V.ref w0)] = tblKV [(0, [])] [w0] := rfl
    rw [e3]
    have hw0' : H w0 = none := by rw [upd_ne (Ne.symm hww)] at hw0; exact hw0
    have hrw : ra ≠ wd := fun z => by rw [z, e3, upd_same] at hra; cases hra
    rw [upd_ne hrw] at hra
    have hrw0 : ra ≠ w0 := fun z => by rw [z, upd_same] at hra; cases hra
    rw [upd_ne hrw0, upd_ne hrw] at hra
    have B0 : WB H (upd (upd (upd (upd H wd (.dK [])) w0 (.lst [])) wd (.dK (tblKV [(0, [])] [w0]))) ra (.lst [.int 0])) wd ra (bfsK rss 0) [w0] := by
      refine ⟨(((Same.upd_new hwd).upd_fresh hw0').upd_fresh hwd).upd_fresh hra, ⟨by rw [upd_ne (Ne.symm hrw)]; exact upd_same, rfl, fun i k e h1 h2 => ?_, by simp [hww]⟩, upd_same, fun b hb => ?_, hra, by simp [hrw, hrw0]⟩
      · cases i with
        | zero =>
          cases h1; cases h2
          rw [upd_ne (Ne.symm hrw0), upd_ne (Ne.symm hww), upd_same]; rfl
        | succ i => simp at h1
      · rcases List.mem_cons.mp hb with rfl | hb
        · exact hwd
        · rw [List.mem_singleton.mp hb]; exact hw0'
    generalize upd (upd (upd (upd H wd (.dK [])) w0 (.lst [])) wd (.dK (tblKV [(0, [])] [w0]))) ra (.lst [.int 0]) = H0 at B0 ⊢
    repeat walk_at "sx"
    refine ⟨fun m σ H' => ∃ (k : Nat) (ks : List Addr) (k4 k5 k6 : Option V), m = rss.length - k ∧ k ≤ (bfsK rss k).length ∧ WB H H' wd ra (bfsK rss k) ks ∧ σ = [some (.ref p), some (.ref wd), some (.ref ra), some (.int (k : Int)), k4, k5, k6], ⟨_, 0, [w0], none, none, none, rfl, Nat.zero_le _, B0, rfl⟩, ?_⟩
    rintro m σ H1 ⟨k, ks, k4, k5, k6, rfl, hk, B, rfl⟩
    have BK := bfsK_ok Wy h0 k hk
    have hBl := BK.len Wy h0
    repeat walk_at "sx"
    refine ⟨ra, _, rfl, .inl (SqL.of B.rooms), ?_⟩
    rw [List.length_map]
    repeat walk_at "sx"
    refine r_ite (fun hc => ?_) (fun hc => ?_)
    · have hc : k < (bfsK rss k).length := by have := of_decide_eq_true hc; omega
      obtain ⟨e, he⟩ : ∃ e, (bfsK rss k)[k]? = some e := ⟨_, List.getElem?_eq_getElem hc⟩
      have hek := BK.keys Wy h0 e (List.mem_of_getElem? he)
      obtain ⟨row, hrow⟩ : ∃ row, rss[e.1.toNat]? = some row := ⟨_, List.getElem?_eq_getElem (by omega)⟩
      have hgd : rss.getD e.1.toNat [] = row := by rw [List.getD_eq_getElem?_getD, hrow, Option.getD_some]
      obtain ⟨hrl, hrx⟩ := Wy.row row (List.mem_of_getElem? hrow)
      have hnext : bfsK rss (k + 1) = rowK (bfsK rss k) e.2 row row.length := by
        show bfsAt rss (bfsK rss k) k = _
        unfold bfsAt
        rw [he]
        dsimp only
        rw [hgd]
      refine ⟨fun σ' H' => ∃ (ks : List Addr) (k4 k5 k6 : Option V), WB H H' wd ra (bfsK rss (k + 1)) ks ∧ σ' = [some (.ref p), some (.ref wd), some (.ref ra), some (.int ((k : Int) + 1)), k4, k5, k6], fun σ' H' ⟨ks, k4, k5, k6, B', es⟩ => ⟨rss.length - (k + 1), by omega, k + 1, ks, k4, k5, k6, rfl, ?_, B', by rw [es]; simp⟩, ?_⟩
      · have := bfsK_grow (rss := rss) (k := k); omega
      repeat walk_at "sx"
      refine r_ixL (SqL.of B.rooms) (atI_nat (j := k) (v := .int e.1) (by rw [List.getElem?_map, he]; rfl)) ?_
      repeat walk_at "sx"
      have ho1 := B.same _ _ ho
      have Wm := hh.ways.same B.same
      obtain ⟨r, _, hr2, hr3⟩ := Wm.get hrow
      have hrH : H r = some (.lst (row.map V.int)) := by obtain ⟨r', _, z2, z3⟩ := hh.ways.get hrow; rw [z2] at hr2; cases hr2; exact z3
      refine ⟨_, rfl, p, _, dx, _, _, rfl, ho1, T.cl_House, T.na_House_ways, hfs_ways _ _ _, ?_⟩
      repeat walk_at "sx"
      refine r_ixL (SqL.of Wm.top) (atI_get' hek.1 hr2) ?_
      repeat walk_at "sx"
      refine ⟨r, rfl, ⟨_, SqL.of hr3⟩, ?_⟩
      refine for_enum (xs := row.map V.int) (fun i σ H' => ∃ (ks : List Addr) (k5 k6 : Option V), WB H H' wd ra (rowK (bfsK rss k) e.2 row i) ks ∧ σ = [some (.ref p), some (.ref wd), some (.ref ra), some (.int (k : Int)), some (.int e.1), k5, k6]) ⟨ks, k5, k6, B, rfl⟩ (fun i σ H' _ ⟨ks, k5, k6, B', _⟩ => SqL.of (B'.same _ _ hrH)) (fun i x σ H' tp hx ⟨ks, k5, k6, B', hσ⟩ ht => ?_) (fun σ H' ⟨ks, k5, k6, B', hσ⟩ => ?_)
      · subst hσ
        have hx0 := int_map_inv hx
        clear hx
        obtain ⟨x, rfl, hx⟩ := hx0
        have hi : i < row.length := (List.getElem?_eq_some_iff.mp hx).1
        have hgx : row.getD i 0 = x := by rw [List.getD_eq_getElem?_getD, hx, Option.getD_some]
        have Bt := B'.tick (Same.upd_new (o := .tup [.int (i : Int), .int x]) ht)
        have Br := BK.rowK Wy h0 he (j := i) (by omega)
        rw [hgd] at Br
        have heR := rowK_get (w := e.2) (row := row) he i
        have hRl := Br.len Wy h0
        have hstep : rowK (bfsK rss k) e.2 row (i + 1) = addDoor (rowK (bfsK rss k) e.2 row i) e.2 i x := by
          show addDoor _ _ _ _ = _
          rw [hgx]
        generalize rowK (bfsK rss k) e.2 row i = L at B' Bt Br heR hRl hstep
        refine ⟨tp, _, rfl, SqT.of upd_same, rfl, _, _, rfl, ?_⟩
        repeat walk_at "sx"
        refine ⟨_, _, rfl, ?_⟩
        repeat walk_at "sx"
        refine ⟨rfl, ?_⟩
        repeat walk_at "sx"
        generalize upd H' tp (.tup [.int (i : Int), .int x]) = H2 at Bt ⊢
        refine r_join (fun σ' H3 => ∃ ks, WB H H3 wd ra (addDoor L e.2 i x) ks ∧ σ' = [some (.ref p), some (.ref wd), some (.ref ra), some (.int (k : Int)), some (.int e.1), some (.int (i : Int)), some (.int x)]) ?_ (fun σ' H3 ⟨ks', B3, es⟩ => ⟨ks', _, _, by rw [hstep]; exact B3, es⟩)
        repeat walk_at "sx"
        refine ⟨wd, _, rfl, DGet.k (k := .inl x) Bt.tbl.top, ?_⟩
        repeat walk_at "sx"
        refine r_ite (fun hc => ?_) (fun hc => ?_)
        · have hnk : hasKey L x = false := by
            cases hz : hasKey L x with
            | false => rfl
            | true => rw [tblKV_some Bt.tbl.len hz] at hc; cases hc
          obtain ⟨kq, hkq⟩ : ∃ kq, ks[k]? = some kq := ⟨_, List.getElem?_eq_getElem (by rw [Bt.tbl.len]; exact (List.getElem?_eq_some_iff.mp heR).1)⟩
          have hval := tblKV_val Br.nd heR hkq
          have hkqr := Bt.tbl.row k kq e hkq heR
          repeat walk_at "sx"
          refine ⟨wd, _, rfl, (hval ▸ DGet.k (k := .inl e.1) Bt.tbl.top), ?_⟩
          repeat walk_at "sx"
          refine ⟨by show 1 ≤ sizeLine; decide, fun p1 hp1 => ?_⟩
          have hk1 : kq ≠ p1 := ne_of_none hkqr hp1
          have hwl : e.2.length ≤ rss.length := Nat.le_trans (BK.wlen k k e (Nat.le_refl _) he) (by omega)
          refine ⟨kq, p1, _, _, rfl, rfl, (by rw [upd_ne hk1]; exact hkqr), upd_same, (by rw [List.length_map]; show e.2.length + 1 ≤ sizeLine; exact Nat.le_trans (show _ ≤ 500 by omega) (by decide)), fun p2 hp2 => ?_⟩
          have s3 : Same H2 (upd (upd H2 p1 (.lst [.int (i : Int)])) p2 (.lst (e.2.map V.int ++ [.int (i : Int)]))) := (Same.upd_new hp1).trans (Same.upd_new hp2)
          have hp2' : H2 p2 = none := (Same.upd_new hp1).free hp2
          have hp23 : (upd (upd H2 p1 (.lst [.int (i : Int)])) p2 (.lst (e.2.map V.int ++ [.int (i : Int)]))) p2 = some (.lst (((x, e.2 ++ [(i : Int)]) : Ent).2.map V.int)) := by rw [upd_same]; simp
          generalize upd (upd H2 p1 (.lst [.int (i : Int)])) p2 (.lst (e.2.map V.int ++ [.int (i : Int)])) = H3 at s3 hp23 ⊢
          have B3 := Bt.add (e := (x, e.2 ++ [(i : Int)])) s3 hp2' hp23
          repeat walk_at "sx"
          refine ⟨wd, _, rfl, DPut.k (k := .inl x) (s3 _ _ Bt.tbl.top) (by rw [tblKV_len Bt.tbl.len]; exact Nat.lt_of_le_of_lt (show _ ≤ 500 by omega) (by decide)), ?_⟩
          rw [putK_new _ (tblKV_none hnk)]
          have hwr : ra ≠ wd := fun z => Bt.out (by rw [z]; exact List.mem_cons_self)
          have hr4 : (upd H3 wd (.dK (tblKV L ks ++ [(.inl x, .ref p2)]))) ra = some (.lst (L.map fun e => V.int e.1)) := by rw [upd_ne hwr]; exact s3 _ _ Bt.rooms
          repeat walk_at "sx"
          refine ⟨.inl ⟨rfl, _, SqL.of hr4⟩, ?_⟩
          repeat walk_at "sx"
          refine ⟨ra, _, _, rfl, rfl, hr4, small1000 (by rw [List.length_map]; omega), ?_⟩
          refine ⟨ks ++ [p2], ?_, rfl⟩
          unfold addDoor
          rw [if_neg (by rw [hnk]; decide)]
          exact B3
        · have hyk : hasKey L x = true := by
            cases hz : hasKey L x with
            | true => rfl
            | false => rw [tblKV_none hz] at hc; cases hc
          repeat walk_at "sx"
          refine ⟨ks, ?_, rfl⟩
          unfold addDoor
          rw [if_pos hyk]
          exact Bt
      · subst hσ
        rw [List.length_map, ← hnext] at B'
        repeat walk_at "sx"
        refine ⟨_, rfl, ?_⟩
        repeat walk_at "sx"
        refine ⟨_, _, rfl, rfl, ?_⟩
        exact ⟨ks, _, _, _, B', rfl⟩
    · have hc : ¬ ((k : Int) < ((bfsK rss k).length : Int)) := of_decide_eq_false hc
      have hend : k = (bfsK rss k).length := by omega
      repeat walk_at "sx"
      refine q H1 wd ks B.same ?_ B.new
      rw [bfsK_end Wy h0 hend]
      exact B.tbl
/-! #### reached -/
theorem sc_reached : FnScope ["house"] ["house"] (defScope s_reached) := ⟨rfl, rfl, rfl, by decide +kernel, rfl, by decide +kernel, by decide +kernel⟩
theorem b_reached (T : Txt K mg t) : Binds K t.fd_reached ["house"] [] := T.F_reached.binds fun _ _ _ _ _ _ us hl => by obtain ⟨_, rfl⟩ := len_1 hl; rfl
def sp_reached (C : Addr) : Sp := fun vs H Q _ => ∃ (p : Addr) (d : Int) (aw : Addr) (rs : List Addr) (rss : List (List Int)) (al : Addr) (ls : List Bool), vs = [.ref p] ∧ HouseAt C H p d aw rs rss al ls ∧ Valid d rss ls ∧
  ∀ (H' : Hp) (a : Addr), Same H H' → H' a = some (.lst (((bfs rss).map Prod.fst).map V.int)) → H a = none → Q (.ref a) H'
theorem ok_reached (T : Txt K mg t) : FnOk P w K mg base CX0 3 t.f_reached t.fd_reached ["house"] (sp_reached t.C_House) := by
  refine T.F_reached.ok sc_reached (fun vs H Q E h => ?_) (fun cdv A outer s H vs Q E hr h => ?_)
  · obtain ⟨p, d, aw, rs, rss, al, ls, rfl, _⟩ := h
    rfl
  · obtain ⟨p, d, aw, rs, rss, al, ls, rfl, hh, Vd, q⟩ := h
    refine ⟨_, pss_one (ps_ret (pe_callTy (call_list_dict rfl) rfl T.m_list boot_list (pa_cons (pe_call (ok_words_by_room T) (hr.mono (by decide)) rfl T.mg_words_by_room T.F_words_by_room.kp (b_words_by_room T) .nil pass0 (pa_cons (pv 0) (pa_nil))) (pa_nil)))), ?_⟩
    repeat walk_at "sx"
    refine ⟨p, d, aw, rs, rss, al, ls, rfl, hh, Vd, fun H1 wd ks hs1 Tb new => ?_⟩
    repeat walk_at "sx"
    refine ⟨wd, _, rfl, Tb.top, fun l hl => ?_⟩
    rw [tblKV_keys Tb.len]
    refine q _ l (hs1.trans (Same.upd_new hl)) ?_ (hs1.free hl)
    rw [upd_same, List.map_map]; rfl
/-! #### with_rooms -/
theorem sc_with_rooms : FnScope ["house", "rooms", "numbers", "ways", "room"] ["house", "rooms", "numbers"] (defScope s_with_rooms) := ⟨rfl, rfl, rfl, by decide +kernel, rfl, by decide +kernel, by decide +kernel⟩
theorem b_with_rooms (T : Txt K mg t) : Binds K t.fd_with_rooms ["house", "rooms", "numbers"] [] := T.F_with_rooms.binds fun _ _ _ _ _ _ us hl => by obtain ⟨_, _, _, rfl⟩ := len_3 hl; rfl
/-- a dict or a list that holds the number of each of these rooms -/
def NumsAt (H : Hp) (na : Addr) (qs : List Int) (f : Int → Int) : Prop := (∃ kvs : List (Key × V), H na = some (.dK kvs) ∧ ∀ q ∈ qs, valV kvs (.inl q) = some (.int (f q))) ∨ ∃ K : List Int, H na = some (.lst (K.map V.int)) ∧ ∀ q ∈ qs, 0 ≤ q ∧ q < K.length ∧ f q = kAt K q
theorem NumsAt.keep {H H' : Hp} {na : Addr} {qs : List Int} {f : Int → Int} (N : NumsAt H na qs f) (k : ∀ o, H na = some o → H' na = some o) : NumsAt H' na qs f := by
  rcases N with ⟨kvs, h1, h2⟩ | ⟨K, h1, h2⟩
  · exact .inl ⟨kvs, k _ h1, h2⟩
  · exact .inr ⟨K, k _ h1, h2⟩
def sp_with_rooms (C : Addr) : Sp := fun vs H Q _ => ∃ (p : Addr) (d : Int) (aw : Addr) (rs : List Addr) (rss : List (List Int)) (al : Addr) (ls : List Bool) (ra na : Addr) (rooms : List Int) (f : Int → Int), vs = [.ref p, .ref ra, .ref na] ∧ HouseAt C H p d aw rs rss al ls ∧ Ways d rss ∧ ls.length = rss.length ∧ H ra = some (.lst (rooms.map V.int)) ∧ (∀ r ∈ rooms, 0 ≤ r ∧ r < rss.length) ∧
  (∀ r ∈ rooms, ∀ row, rss[r.toNat]? = some row → NumsAt H na row f) ∧ Valid d (rooms.map fun r => (rss.getD r.toNat []).map f) (rooms.map (lampI ls)) ∧ (∃ o, H na = some o) ∧
  ∀ H' gp gw gs gl, Same H H' → HouseAt C H' gp d gw gs (rooms.map fun r => (rss.getD r.toNat []).map f) gl (rooms.map (lampI ls)) → Q (.ref gp) H'
theorem ok_with_rooms (T : Txt K mg t) : FnOk P w K mg base CX0 5 t.f_with_rooms t.fd_with_rooms ["house", "rooms", "numbers"] (sp_with_rooms t.C_House) := by
  refine T.F_with_rooms.ok sc_with_rooms (fun vs H Q E h => ?_) (fun cdv A outer s H vs Q E hr h => ?_)
  · obtain ⟨p, d, aw, rs, rss, al, ls, ra, na, rooms, f, rfl, _⟩ := h
    rfl
  · obtain ⟨p, d, aw, rs, rss, al, ls, ra, na, rooms, f, rfl, hh, W, hll, hra, hrm, hn, Vd, ⟨na0, hna⟩, q⟩ := h
    obtain ⟨dx, ho⟩ := hh.ob
    have h400 := Vd.r400
    rw [List.length_map] at h400
    have hd6 := Vd.d6
    have hd1 := Vd.d1
    obtain ⟨NW, eNW⟩ : ∃ NW, NW = rooms.map fun r => (rss.getD r.toNat []).map f := ⟨_, rfl⟩
    rw [← eNW] at Vd
    rw [← eNW] at q
    have hNl : NW.length = rooms.length := by rw [eNW, List.length_map]
    refine ⟨_, pss_cons (ps_set (i := 3) sc_with_rooms.nd rfl (Or.inl rfl) (pe_lst (pa_nil)))
 (pss_cons (ps_for PassesOwn.never rfl (pi_listK K (pv 1)) (pg_name (i := 4) sc_with_rooms.nd rfl (Or.inl rfl))
 (pss_one (ps_expr (pe_bmK K PySem.F.plainAttrs_list PySem.F.slot_list_append PySem.F.type_list_append mt_append (pv 3) (pa_cons (pe_comp (N := ["house", "rooms", "numbers", "ways", "room"]) (sc0 := (defScope s_with_rooms)) (N' := ["way", "numbers"]) (caps := [none, some 2]) (by exact ⟨rfl, by decide +kernel, by decide +kernel, by decide +kernel, rfl, rfl, by decide +kernel⟩) rfl (pi_listK K (pe_ix (ix_listK K) (pe_fldK K (pv 0) rfl) (pv 4) (fun _ _ => rfl))) (fun _ _ _ _ _ _ => pg_name (i := 0) (show List.Nodup (["way", "numbers"] : List Str) from by decide +kernel) rfl (Or.inl rfl)) (fun _ _ _ _ _ _ => pe_either (pe_dget hr.units1 (pv 1) (pv 0) (fun _ _ => rfl)) (pe_ix (ix_listK K) (pv 1) (pv 0) (fun _ _ => rfl)))) (pa_nil))))))
 (pss_one (ps_ret (pe_make T.mk_House (ok_House_init T) (hr.mono (by decide)) rfl T.mg_House (b_House_init T) .nil pass0 (pa_cons (pe_fldK K (pv 0) rfl) (pa_cons (pv 3) (pa_cons (pe_comp (N := ["house", "rooms", "numbers", "ways", "room"]) (sc0 := (defScope s_with_rooms)) (N' := ["room", "house"]) (caps := [none, some 0]) (by exact ⟨rfl, by decide +kernel, by decide +kernel, by decide +kernel, rfl, rfl, by decide +kernel⟩) rfl (pi_listK K (pv 1)) (fun _ _ _ _ _ _ => pg_name (i := 0) (show List.Nodup (["room", "house"] : List Str) from by decide +kernel) rfl (Or.inl rfl)) (fun _ _ _ _ _ _ => pe_ix (ix_listK K) (pe_fldK K (pv 1) rfl) (pv 0) (fun _ _ => rfl))) (pa_nil)))))))), ?_⟩
    repeat walk_at "sx"
    refine ⟨Nat.zero_le _, fun wl hwl => ?_⟩
    have G0 : Grown H (upd H wl (.lst [])) wl [] (fun j => NW.getD j []) := Grown.start hwl
    generalize upd H wl (.lst []) = H1 at G0 ⊢
    repeat walk_at "sx"
    refine ⟨ra, rfl, ⟨_, SqL.of (G0.same _ _ hra)⟩, ?_⟩
    refine for_list (xs := rooms.map V.int) (fun i σ H' => ∃ rs' k4, rs'.length = i ∧ Grown H H' wl rs' (fun j => NW.getD j []) ∧ σ = [some (.ref p), some (.ref ra), some (.ref na), some (.ref wl), k4]) ⟨[], _, rfl, G0, rfl⟩ (fun i σ H' _ pp => by obtain ⟨_, _, _, G, _⟩ := pp; exact SqL.of (G.same _ _ hra)) (fun i x σ H2 hx pp => ?_) (fun σ H2 pp => ?_)
    · obtain ⟨rs', k4, hl', G, rfl⟩ := pp
      have hx0 := int_map_inv hx
      clear hx
      obtain ⟨r, rfl, hx⟩ := hx0
      have hi : i < rooms.length := (List.getElem?_eq_some_iff.mp hx).1
      obtain ⟨r0, r1⟩ := hrm r (List.mem_of_getElem? hx)
      obtain ⟨row, hrow⟩ : ∃ row, rss[r.toNat]? = some row := ⟨_, List.getElem?_eq_getElem (by omega)⟩
      have hgd : rss.getD r.toNat [] = row := by rw [List.getD_eq_getElem?_getD, hrow, Option.getD_some]
      obtain ⟨hrl, _⟩ := W.row row (List.mem_of_getElem? hrow)
      have N := hn r (List.mem_of_getElem? hx) row hrow
      have hNi : NW.getD rs'.length [] = row.map f := by rw [hl', List.getD_eq_getElem?_getD, eNW, List.getElem?_map, hx, ← hgd]; rfl
      have hh2 := hh.same G.same
      obtain ⟨dx2, ho2⟩ := hh2.ob
      obtain ⟨rx, _, z2, z3⟩ := hh2.ways.get hrow
      repeat walk_at "sx"
      refine ⟨.inl ⟨rfl, _, SqL.of G.top⟩, ?_⟩
      repeat walk_at "sx"
      refine ⟨_, rfl, p, _, dx2, _, _, rfl, ho2, T.cl_House, T.na_House_ways, hfs_ways _ _ _, ?_⟩
      repeat walk_at "sx"
      refine r_ixL (SqL.of hh2.ways.top) (atI_get' r0 z2) ?_
      repeat walk_at "sx"
      refine ⟨rx, rfl, ⟨_, SqL.of z3⟩, ?_⟩
      refine comp_list (xs := row.map V.int) (fun acc j ys H3 => ys = ((row.take j).map f).map V.int ∧ H3 = upd H2 acc (.lst ys)) (fun acc hacc => ⟨rfl, rfl⟩) (fun acc j ys H3 hacc _ pp => by rw [pp.2]; exact SqL.of (by rw [upd_ne (ne_of_none z3 hacc)]; exact z3)) (fun acc j x ys H3 hacc hx pp => ?_) (fun acc ys H3 hacc pp => ?_)
      · obtain ⟨rfl, rfl⟩ := pp
        have hx0 := int_map_inv hx
        clear hx
        obtain ⟨x, rfl, hx⟩ := hx0
        have hxm := List.mem_of_getElem? hx
        have hj : j < row.length := (List.getElem?_eq_some_iff.mp hx).1
        have N3 := N.keep (H' := upd H2 acc (.lst (((row.take j).map f).map V.int))) fun o e => by
          have e2 := G.same _ _ e
          rw [upd_ne (ne_of_none e2 hacc)]; exact e2
        have fin : ∀ {H3 : Hp}, H3 = upd H2 acc (.lst (((row.take j).map f).map V.int)) → H3 acc = some (.lst (((row.take j).map f).map V.int)) ∧ (((row.take j).map f).map V.int).length < sizeLine ∧ ((row.take j).map f).map V.int ++ [V.int (f x)] = ((row.take (j + 1)).map f).map V.int ∧ upd H3 acc (.lst (((row.take j).map f).map V.int ++ [V.int (f x)])) = upd H2 acc (.lst (((row.take j).map f).map V.int ++ [V.int (f x)])) := fun {H3} e => by
          subst e
          refine ⟨upd_same, small1000 (by simp; omega), ?_, upd_upd⟩
          rw [List.take_add_one, hx]; simp
        repeat walk_at "sx"
        refine ⟨Wk.set rfl, ?_⟩
        repeat walk_at "sx"
        rcases N3 with ⟨kvs, e1, e2⟩ | ⟨K, e1, e2⟩
        · refine Or.inl ?_
          repeat walk_at "sx"
          have hdg : DGet (upd H2 acc (.lst (((row.take j).map f).map V.int))) na (kV (Sum.inl x)) (valV kvs (Sum.inl x)) := DGet.k e1
          rw [e2 x hxm] at hdg
          refine ⟨na, _, rfl, hdg, ?_⟩
          obtain ⟨a1, a2, a3, a4⟩ := fin rfl
          exact ⟨a1, a2, a3, a4⟩
        · refine Or.inr ?_
          obtain ⟨x0, x1, ex⟩ := e2 x hxm
          repeat walk_at "sx"
          have hg := kAt_get (K := K) x0 x1
          refine r_ixL (SqL.of e1) (atI_get' x0 (int_map_get hg)) ?_
          rw [← ex]
          obtain ⟨a1, a2, a3, a4⟩ := fin rfl
          exact ⟨a1, a2, a3, a4⟩
      · obtain ⟨rfl, rfl⟩ := pp
        rw [List.length_map, List.take_length]
        repeat walk_at "sx"
        have hla : wl ≠ acc := fun z => G.fresh hacc (by rw [z]; exact List.mem_cons_self)
        refine ⟨wl, rs'.map V.ref, _, rfl, rfl, (by rw [upd_ne hla]; exact G.top), small1000 (by rw [List.length_map]; omega), ?_⟩
        refine ⟨rs' ++ [acc], _, by simp [hl'], ?_, rfl⟩
        have := G.snoc hacc
        rw [hNi] at this
        exact this
    obtain ⟨rs', k4, hl', G, rfl⟩ := pp
    rw [List.length_map] at hl'
    have M2 := G.matOf (by rw [hl', hNl])
    have s2 := G.same
    have hh2 := hh.same s2
    obtain ⟨dx2, ho2⟩ := hh2.ob
    clear G
    repeat walk_at "sx"
    refine ⟨_, rfl, p, _, dx2, _, _, rfl, ho2, T.cl_House, T.na_House_doors, hfs_doors _ _ _, ?_⟩
    repeat walk_at "sx"
    refine ⟨ra, rfl, ⟨_, SqL.of (s2 _ _ hra)⟩, ?_⟩
    refine comp_list (xs := rooms.map V.int) (fun acc j ys H3 => ys = ((rooms.take j).map (lampI ls)).map V.bl ∧ H3 = upd H2 acc (.lst ys)) (fun acc hacc => ⟨rfl, rfl⟩) (fun acc j ys H3 hacc _ pp => by rw [pp.2]; exact SqL.of (by rw [upd_ne (ne_of_none (s2 _ _ hra) hacc)]; exact s2 _ _ hra)) (fun acc j x ys H3 hacc hx pp => ?_) (fun acc ys H3 hacc pp => ?_)
    · obtain ⟨rfl, rfl⟩ := pp
      have hx0 := int_map_inv hx
      clear hx
      obtain ⟨x, rfl, hx⟩ := hx0
      obtain ⟨x0, x1⟩ := hrm x (List.mem_of_getElem? hx)
      have hj : j < rooms.length := (List.getElem?_eq_some_iff.mp hx).1
      have hlx : x.toNat < ls.length := by omega
      have s3 : Same H2 (upd H2 acc (.lst (((rooms.take j).map (lampI ls)).map V.bl))) := Same.upd_new hacc
      have hh3 := hh2.same s3
      obtain ⟨dx3, ho3⟩ := hh3.ob
      have hlv : ls[x.toNat]? = some (lampI ls x) := by unfold lampI; rw [List.getD_eq_getElem?_getD, List.getElem?_eq_getElem hlx]; rfl
      repeat walk_at "sx"
      refine ⟨Wk.set rfl, ?_⟩
      repeat walk_at "sx"
      refine ⟨_, rfl, p, _, dx3, _, _, rfl, ho3, T.cl_House, T.na_House_lamps, hfs_lamps _ _ _, ?_⟩
      repeat walk_at "sx"
      refine r_ixL (SqL.of hh3.lamps) (atI_get' x0 (by rw [List.getElem?_map, hlv]; rfl)) ?_
      refine ⟨upd_same, small1000 (by simp; omega), ?_, ?_⟩
      · rw [List.take_add_one, hx]; simp
      · rw [upd_upd]
    obtain ⟨rfl, rfl⟩ := pp
    rw [List.length_map, List.take_length]
    have s3 : Same H2 (upd H2 acc (.lst ((rooms.map (lampI ls)).map V.bl))) := Same.upd_new hacc
    have a3 : (upd H2 acc (.lst ((rooms.map (lampI ls)).map V.bl))) acc = some (.lst ((rooms.map (lampI ls)).map V.bl)) := upd_same
    generalize upd H2 acc (.lst ((rooms.map (lampI ls)).map V.bl)) = H3 at s3 a3 ⊢
    repeat walk_at "sx"
    intro hp hdx e1 e2 e3
    have sm : Same H3 (upd (upd H3 hdx (.own hp)) hp (.ins t.C_House hdx [])) := (Same.upd_new e2).trans (Same.upd_new (by rw [upd_ne (Ne.symm e3)]; exact e1))
    refine ⟨hp, hdx, d, wl, rs', NW, acc, _, rfl, upd_same, (M2.same s3).same sm, SqL.of (sm _ _ a3), Vd, fun H8 aw8 rs8 al8 hh8 keep8 new8 => ⟨rfl, ?_⟩⟩
    have s8 : Same H3 H8 := fun b o e => keep8 b o (sm b o e) (ne_of_none e e1)
    repeat walk_at "sx"
    exact q H8 hp aw8 rs8 al8 (s2.trans (s3.trans s8)) hh8
/-! #### without_unreached -/
theorem sc_without_unreached : FnScope ["house", "rooms", "numbers", "place", "room"] ["house"] (defScope s_without_unreached) := ⟨rfl, rfl, rfl, by decide +kernel, rfl, by decide +kernel, by decide +kernel⟩
theorem b_without_unreached (T : Txt K mg t) : Binds K t.fd_without_unreached ["house"] [] := T.F_without_unreached.binds fun _ _ _ _ _ _ us hl => by obtain ⟨_, rfl⟩ := len_1 hl; rfl
def plKV (L : List Int) : List (Key × V) := L.zipIdx.map fun e => ((.inl e.1 : Key), V.int ((e.2 : Nat) : Int))
theorem plKV_snoc (L : List Int) (r : Int) : plKV (L ++ [r]) = plKV L ++ [((.inl r : Key), V.int ((L.length : Nat) : Int))] := by
  unfold plKV
  rw [List.zipIdx_append, List.map_append]
  simp
theorem plKV_val (q : Int) : ∀ (L : List Int) (k : Nat), valV ((L.zipIdx k).map fun e => ((.inl e.1 : Key), V.int ((e.2 : Nat) : Int))) (.inl q : Key) = if q ∈ L then some (.int ((k + L.idxOf q : Nat) : Int)) else none
  | [], k => by simp [valV_nil]
  | p :: r, k => by
    have e : (((p :: r).zipIdx k).map fun e => ((.inl e.1 : Key), V.int ((e.2 : Nat) : Int))) = ((.inl p : Key), V.int ((k : Nat) : Int)) :: ((r.zipIdx (k + 1)).map fun e => ((.inl e.1 : Key), V.int ((e.2 : Nat) : Int))) := by simp [List.zipIdx_cons]
    rw [e]
    by_cases h : p = q
    · subst h
      rw [valV_pos rfl, if_pos (by simp)]
      simp [List.idxOf_cons]
    · rw [valV_neg (fun z => h (Sum.inl.inj z)), plKV_val q r (k + 1)]
      have hb : (p == q) = false := beq_eq_false_iff_ne.mpr h
      by_cases hq : q ∈ r
      · rw [if_pos hq, if_pos (by simp [hq]), List.idxOf_cons, hb]
        simp only [cond_false]
        congr 3; omega
      · rw [if_neg hq, if_neg (by simp [hq, Ne.symm h])]
theorem plKV_len (L : List Int) : (plKV L).length = L.length := by simp [plKV]
theorem trim_le {d : Int} {rss : List (List Int)} {ls : List Bool} (V : Valid d rss ls) : (trimR rss).length ≤ rss.length := by
  have W := V.toWays
  have h0 : 0 < rss.length := V.r1
  have := (bfs_ok W h0).len W h0
  rw [trimR_len]; unfold ordR; rw [List.length_map]; exact this
theorem trim_valid {d : Int} {rss : List (List Int)} {ls : List Bool} (V : Valid d rss ls) : Valid d (trimR rss) (trimL rss ls) := by
  have W := V.toWays
  have h0 : 0 < rss.length := V.r1
  have hn := trim_n0 W h0
  have hl : (trimR rss).length ≤ rss.length := by
    have := (bfs_ok W h0).len W h0
    rw [trimR_len]; unfold ordR; rw [List.length_map]; exact this
  exact { row := (trim_ways W h0).row, d1 := V.d1, d6 := V.d6, r1 := hn, r400 := Nat.le_trans hl V.r400, ll := trimL_len rss ls }
def sp_without_unreached (C : Addr) : Sp := fun vs H Q _ => ∃ (p : Addr) (d : Int) (aw : Addr) (rs : List Addr) (rss : List (List Int)) (al : Addr) (ls : List Bool), vs = [.ref p] ∧ HouseAt C H p d aw rs rss al ls ∧ Valid d rss ls ∧
  ∀ H' gp gw gs gl, Same H H' → HouseAt C H' gp d gw gs (trimR rss) gl (trimL rss ls) → Q (.ref gp) H'
theorem ok_without_unreached (T : Txt K mg t) : FnOk P w K mg base CX0 6 t.f_without_unreached t.fd_without_unreached ["house"] (sp_without_unreached t.C_House) := by
  refine T.F_without_unreached.ok sc_without_unreached (fun vs H Q E h => ?_) (fun cdv A outer s H vs Q E hr h => ?_)
  · obtain ⟨p, d, aw, rs, rss, al, ls, rfl, _⟩ := h
    rfl
  · obtain ⟨p, d, aw, rs, rss, al, ls, rfl, hh, Vd, q⟩ := h
    have W := Vd.toWays
    have h0 : 0 < rss.length := Vd.r1
    have h400 := Vd.r400
    have Vt := trim_valid Vd
    have hol : (ordR rss).length ≤ 400 := by have := Vt.r400; rw [trimR_len] at this; exact this
    have hnd : (ordR rss).Nodup := (bfs_ok W h0).nd
    refine ⟨_, pss_cons (ps_set (i := 1) sc_without_unreached.nd rfl (Or.inl rfl) (pe_call (ok_reached T) (hr.mono (by decide)) rfl T.mg_reached T.F_reached.kp (b_reached T) .nil pass0 (pa_cons (pv 0) (pa_nil))))
 (pss_cons (ps_set (i := 2) sc_without_unreached.nd rfl (Or.inl rfl) (pe_dnewK))
 (pss_cons (ps_for PassesOwn.never rfl (pi_enumK K rfl T.m_enumerate (pa_cons (pv 1) (pa_nil))) (pg_tupK K (n := 2) rfl (pgs_cons (pg_name (i := 3) sc_without_unreached.nd rfl (Or.inl rfl)) (pgs_cons (pg_name (i := 4) sc_without_unreached.nd rfl (Or.inl rfl)) (pgs_nil))))
 (pss_one (ps_dput hr.units1 (pv 2) (pv 4) (pv 3) rfl)))
 (pss_one (ps_ret (pe_call (ok_with_rooms T) (hr.mono (by decide)) rfl T.mg_with_rooms T.F_with_rooms.kp (b_with_rooms T) .nil pass0 (pa_cons (pv 0) (pa_cons (pv 1) (pa_cons (pv 2) (pa_nil))))))))), ?_⟩
    repeat walk_at "sx"
    refine ⟨p, d, aw, rs, rss, al, ls, rfl, hh, Vd, fun H1 ra s1 hra _ => ?_⟩
    change H1 ra = some (.lst ((ordR rss).map V.int)) at hra
    repeat walk_at "sx"
    intro nd hnb
    have s2 : Same H1 (upd H1 nd (.dK [])) := Same.upd_new hnb
    have n2 : (upd H1 nd (.dK [])) nd = some (.dK (plKV ((ordR rss).take 0))) := upd_same
    generalize upd H1 nd (.dK []) = H2 at s2 n2 ⊢
    repeat walk_at "sx"
    refine ⟨ra, rfl, ⟨_, SqL.of (s2 _ _ hra)⟩, ?_⟩
    refine for_enum (xs := (ordR rss).map V.int) (fun i σ H' => (∀ b o, H1 b = some o → H' b = some o) ∧ H' nd = some (.dK (plKV ((ordR rss).take i))) ∧ ∃ k3 k4, σ = [some (.ref p), some (.ref ra), some (.ref nd), k3, k4]) ⟨s2, n2, _, _, rfl⟩ (fun i σ H' _ pp => SqL.of (pp.1 _ _ hra)) (fun i x σ H3 tp hx pp htp => ?_) (fun σ H3 pp => ?_)
    · obtain ⟨s3, n3, k3, k4, rfl⟩ := pp
      have hx0 := int_map_inv hx
      clear hx
      obtain ⟨r, rfl, hx⟩ := hx0
      have hi : i < (ordR rss).length := (List.getElem?_eq_some_iff.mp hx).1
      refine ⟨tp, _, rfl, SqT.of upd_same, rfl, _, _, rfl, ?_⟩
      have s4 : Same H3 (upd H3 tp (.tup [.int (i : Int), .int r])) := Same.upd_new htp
      generalize upd H3 tp (.tup [.int (i : Int), .int r]) = H4 at s4 ⊢
      repeat walk_at "sx"
      refine ⟨_, _, rfl, ?_⟩
      repeat walk_at "sx"
      refine ⟨rfl, ?_⟩
      repeat walk_at "sx"
      have hnone : valV (plKV ((ordR rss).take i)) (.inl r : Key) = none := by
        unfold plKV
        rw [plKV_val, if_neg]
        intro z
        obtain ⟨j, hj⟩ := List.getElem?_of_mem z
        have hji := (List.getElem?_eq_some_iff.mp hj).1
        rw [List.length_take] at hji
        rw [List.getElem?_take_of_lt (by omega)] at hj
        have := (List.getElem?_inj (show j < (ordR rss).length by omega) hnd).mp (hj.trans hx.symm)
        omega
      refine ⟨nd, _, rfl, DPut.k (k := Sum.inl r) (s4 _ _ n3) (by rw [plKV_len, List.length_take]; exact Nat.lt_of_le_of_lt (Nat.min_le_left _ _) (Nat.lt_of_lt_of_le (show i < 400 by omega) (by decide))), ?_⟩
      rw [putK_new _ hnone]
      refine ⟨fun b o e => ?_, ?_, _, _, rfl⟩
      · rw [upd_ne (ne_of_none e hnb)]; exact s4 _ _ (s3 b o e)
      · rw [upd_same, List.take_add_one, hx, Option.toList_some, plKV_snoc, List.length_take, Nat.min_eq_left (by omega)]
    · obtain ⟨s3, n3, k3, k4, rfl⟩ := pp
      rw [List.length_map, List.take_length] at n3
      have s3' : Same H1 H3 := s3
      have s03 : Same H H3 := s1.trans s3'
      repeat walk_at "sx"
      refine ⟨p, d, aw, rs, rss, al, ls, ra, nd, ordR rss, ixT rss, rfl, hh.same s03, W, Vd.ll, s3 _ _ hra, fun r hr => ord_in W h0 hr, fun r hr row hrow => .inl ⟨_, n3, fun x hx => ?_⟩, Vt, ⟨_, n3⟩, fun H4 gp gw gs gl s4 hg => q H4 gp gw gs gl (s03.trans s4) hg⟩
      unfold plKV
      rw [plKV_val, if_pos, Nat.zero_add]
      · rfl
      · obtain ⟨j, hj⟩ := List.getElem?_of_mem hx
        have hjl := (List.getElem?_eq_some_iff.mp hj).1
        have hrl := (W.row row (List.mem_of_getElem? hrow)).1
        have : x = step rss r (j : Int) := by
          unfold step
          rw [Int.toNat_natCast, List.getD_eq_getElem?_getD (l := rss), hrow, Option.getD_some, List.getD_eq_getElem?_getD, hj]; rfl
        rw [this]
        exact ord_step W h0 hr (by omega) (by omega)
/-! #### numbered -/
theorem sc_numbered : FnScope ["marks", "numbers", "mark"] ["marks"] (defScope s_numbered) := ⟨rfl, rfl, rfl, by decide +kernel, rfl, by decide +kernel, by decide +kernel⟩
theorem b_numbered (T : Txt K mg t) : Binds K t.fd_numbered ["marks"] [] := T.F_numbered.binds fun _ _ _ _ _ _ us hl => by obtain ⟨_, rfl⟩ := len_1 hl; rfl
def ixD {κ : Type} [DecidableEq κ] (L : List κ) (x : κ) : Int := (((dd L).idxOf x : Nat) : Int)
theorem nums_ix {κ : Type} [DecidableEq κ] (L : List κ) : L.map (ixD L) = numsOf L := rfl
def ddKV {κ : Type} [DecidableEq κ] (L : List κ) : List (κ × V) := (dd L).zipIdx.map fun e => (e.1, V.int ((e.2 : Nat) : Int))
theorem ddKV_len {κ : Type} [DecidableEq κ] (L : List κ) : (ddKV L).length = (dd L).length := by simp [ddKV]
theorem zipKV_val {κ : Type} [DecidableEq κ] (q : κ) : ∀ (L : List κ) (k : Nat), valV ((L.zipIdx k).map fun e => (e.1, V.int ((e.2 : Nat) : Int))) q = if q ∈ L then some (.int ((k + L.idxOf q : Nat) : Int)) else none
  | [], k => by simp [valV_nil]
  | p :: r, k => by
    have e : (((p :: r).zipIdx k).map fun e => (e.1, V.int ((e.2 : Nat) : Int))) = (p, V.int ((k : Nat) : Int)) :: ((r.zipIdx (k + 1)).map fun e => (e.1, V.int ((e.2 : Nat) : Int))) := by simp [List.zipIdx_cons]
    rw [e]
    by_cases h : p = q
    · subst h
      rw [valV_pos rfl, if_pos (by simp)]
      simp [List.idxOf_cons]
    · rw [valV_neg h, zipKV_val q r (k + 1)]
      have hb : (p == q) = false := beq_eq_false_iff_ne.mpr h
      by_cases hq : q ∈ r
      · rw [if_pos hq, if_pos (by simp [hq]), List.idxOf_cons, hb]
        simp only [cond_false]
        congr 3; omega
      · rw [if_neg hq, if_neg (by simp [hq, Ne.symm h])]
theorem ddKV_val {κ : Type} [DecidableEq κ] (L : List κ) (q : κ) : valV (ddKV L) q = if q ∈ L then some (.int (ixD L q)) else none := by
  unfold ddKV
  rw [zipKV_val, Nat.zero_add]
  by_cases h : q ∈ L
  · rw [if_pos h, if_pos ((mem_dd L q).mpr h)]; rfl
  · rw [if_neg h, if_neg (fun z => h ((mem_dd L q).mp z))]
theorem ddKV_old {κ : Type} [DecidableEq κ] {L : List κ} {x : κ} {v : V} (h : valV (ddKV L) x = some v) : ddKV (L ++ [x]) = ddKV L := by
  rw [ddKV_val] at h
  have hx : x ∈ L := by
    apply Classical.byContradiction
    intro z
    rw [if_neg z] at h; cases h
  unfold ddKV
  rw [dd_snoc]
  unfold addD
  rw [if_pos ((mem_dd L x).mpr hx)]
theorem ddKV_new {κ : Type} [DecidableEq κ] {L : List κ} {x : κ} (h : valV (ddKV L) x = none) : putK (ddKV L) x (.int ((ddKV L).length : Nat)) = ddKV (L ++ [x]) := by
  rw [putK_new _ h]
  rw [ddKV_val] at h
  have hx : x ∉ L := fun z => by rw [if_pos z] at h; cases h
  rw [ddKV_len]
  unfold ddKV
  rw [dd_snoc]
  unfold addD
  rw [if_neg (fun z => hx ((mem_dd L x).mp z)), List.zipIdx_append, List.map_append]
  simp
/-- pairs of a number and a tuple of numbers -/
structure PairsAt (H : Hp) (as : List Addr) (ms : List (Int × List Int)) : Prop where
  len : as.length = ms.length
  row : ∀ (i : Nat) a m, as[i]? = some a → ms[i]? = some m → ∃ b, H a = some (.tup [.int m.1, .ref b]) ∧ H b = some (.tup (m.2.map V.int))
def sp_numbered (K : PySem.W.Frag) : Sp := fun vs H Q _ => (∃ (ma : Addr) (ls : List Bool), vs = [.ref ma] ∧ H ma = some (.lst (ls.map V.bl)) ∧ ls.length ≤ 400 ∧ ∀ H' l, Same H H' → H l = none → H' l = some (.lst ((numsOf ls).map V.int)) → Q (.ref l) H') ∨
  (∃ (ma : Addr) (as : List Addr) (ms : List (Int × List Int)), vs = [.ref ma] ∧ H ma = some (.lst (as.map V.ref)) ∧ PairsAt H as ms ∧ ms.length ≤ 400 ∧ ∀ H' l, Same H H' → H l = none → H' l = some (.lst ((numsOf ms).map V.int)) → Q (.ref l) H')
theorem ok_numbered (T : Txt K mg t) : FnOk P w K mg base CX0 1 t.f_numbered t.fd_numbered ["marks"] (sp_numbered K) := by
  refine T.F_numbered.ok sc_numbered (fun vs H Q E h => ?_) (fun cdv A outer s H vs Q E hr h => ?_)
  · rcases h with ⟨ma, ls, rfl, _⟩ | ⟨ma, as, ms, rfl, _⟩ <;> rfl
  · rcases h with ⟨ma, ls, rfl, hma, h400, q⟩ | ⟨ma, as, ms, rfl, hma, PA, h400, q⟩
    · refine ⟨_, pss_cons (ps_set (i := 1) sc_numbered.nd rfl (Or.inr rfl) (pe_dnewV P w))
 (pss_cons (ps_for PassesOwn.never rfl (pi_listK K (pv 0)) (pg_name (i := 2) sc_numbered.nd rfl (Or.inl rfl))
 (pss_one (ps_expr (pe_vsetd P w (pv 1) (pv 2) (pe_callB (call_lenV P w) rfl T.m_len PySem.boot_len (pa_cons (pv 1) (pa_nil))) ⟨rfl, rfl, rfl, rfl⟩))))
 (pss_one (ps_ret (pe_comp (N := ["marks", "numbers", "mark"]) (sc0 := (defScope s_numbered)) (N' := ["mark", "numbers"]) (caps := [none, some 1]) (by exact ⟨rfl, by decide +kernel, by decide +kernel, by decide +kernel, rfl, rfl, by decide +kernel⟩) rfl (pi_listK K (pv 0)) (fun _ _ _ _ _ _ => pg_name (i := 0) (show List.Nodup (["mark", "numbers"] : List Str) from by decide +kernel) rfl (Or.inl rfl)) (fun _ _ _ _ _ _ => pe_vget P w (pv 1) (pv 0) (fun _ _ => rfl)))))), ?_⟩
      repeat walk_at "sx"
      refine r_dnewV ?_
      intro nd hnd D0
      have s1 : Same H (upd H nd (.ext (DVAt P w nd []))) := Same.upd_new hnd
      generalize upd H nd (.ext (DVAt P w nd [])) = H1 at s1 D0 ⊢
      repeat walk_at "sx"
      refine ⟨ma, rfl, ⟨_, SqL.of (s1 _ _ hma)⟩, ?_⟩
      refine for_list (xs := ls.map V.bl) (fun i σ H' => Same H H' ∧ DV P w H' nd (ddKV (ls.take i)) ∧ ∃ k2, σ = [some (.ref ma), some (.ref nd), k2]) ⟨s1, D0, _, rfl⟩ (fun i σ H' _ pp => SqL.of (pp.1 _ _ hma)) (fun i x σ H2 hx pp => ?_) (fun σ H2 pp => ?_)
      · obtain ⟨s2, D2, k2, rfl⟩ := pp
        have hx0 : ∃ b, x = .bl b ∧ ls[i]? = some b := by
          rw [List.getElem?_map] at hx
          obtain ⟨b, hb, e⟩ := Option.map_eq_some_iff.mp hx
          exact ⟨b, e.symm, hb⟩
        clear hx
        obtain ⟨x, rfl, hx⟩ := hx0
        have hi : i < ls.length := (List.getElem?_eq_some_iff.mp hx).1
        have hl := dd_len (ls.take i)
        rw [List.length_take] at hl
        have et : ls.take (i + 1) = ls.take i ++ [x] := by rw [List.take_add_one, hx]; rfl
        repeat walk_at "sx"
        refine r_vsetd ?_
        repeat walk_at "sx"
        refine ⟨nd, rfl, ⟨_, D2⟩, ?_⟩
        repeat walk_at "sx"
        refine ⟨nd, _, rfl, D2, ?_⟩
        refine ⟨x, _, rfl, D2, by rw [ddKV_len]; exact Nat.lt_of_le_of_lt hl (Nat.lt_of_lt_of_le (show min i ls.length < 401 by omega) (by decide)), fun v hv => ?_, fun hn H4 k4 D4 => ?_⟩
        · refine ⟨s2, ?_, _, rfl⟩
          rw [et, ddKV_old hv]; exact D2
        · refine ⟨fun b o e => by rw [k4 b (fun z => by rw [z, hnd] at e; cases e)]; exact s2 b o e, ?_, _, rfl⟩
          rw [ddKV_new hn] at D4
          rw [et]; exact D4
      obtain ⟨s2, D2, k2, rfl⟩ := pp
      rw [List.length_map, List.take_length] at D2
      repeat walk_at "sx"
      refine ⟨ma, rfl, ⟨_, SqL.of (s2 _ _ hma)⟩, ?_⟩
      refine comp_list (xs := ls.map V.bl) (fun acc j ys H3 => ys = ((ls.take j).map (ixD ls)).map V.int ∧ Same H2 H3 ∧ H3 acc = some (.lst ys)) (fun acc hacc => ⟨rfl, Same.upd_new hacc, upd_same⟩) (fun acc j ys H3 hacc _ pp => SqL.of (pp.2.1 _ _ (s2 _ _ hma))) (fun acc j x ys H3 hacc hx pp => ?_) (fun acc ys H3 hacc pp => ?_)
      · obtain ⟨rfl, s3, a3⟩ := pp
        have hx0 : ∃ b, x = .bl b ∧ ls[j]? = some b := by
          rw [List.getElem?_map] at hx
          obtain ⟨b, hb, e⟩ := Option.map_eq_some_iff.mp hx
          exact ⟨b, e.symm, hb⟩
        clear hx
        obtain ⟨x, rfl, hx⟩ := hx0
        have hj : j < ls.length := (List.getElem?_eq_some_iff.mp hx).1
        have hv := ddKV_val ls x
        rw [if_pos (List.mem_of_getElem? hx)] at hv
        repeat walk_at "sx"
        refine ⟨Wk.set rfl, ?_⟩
        refine r_vget ?_
        repeat walk_at "sx"
        refine ⟨nd, x, _, _, rfl, rfl, D2.same s3, hv, ?_⟩
        refine ⟨a3, small1000 (by simp; omega), ?_, fun b o e => ?_, upd_same⟩
        · rw [List.take_add_one, hx]; simp
        · rw [upd_ne (ne_of_none e hacc)]; exact s3 b o e
      obtain ⟨rfl, s3, a3⟩ := pp
      rw [List.length_map, List.take_length, nums_ix] at a3
      repeat walk_at "sx"
      exact q H3 acc (s2.trans s3) (s2.free hacc) a3
    · refine ⟨_, pss_cons (ps_set (i := 1) sc_numbered.nd rfl (Or.inr rfl) (pe_dnewG (prKD P w)))
 (pss_cons (ps_for PassesOwn.never rfl (pi_listK K (pv 0)) (pg_name (i := 2) sc_numbered.nd rfl (Or.inl rfl))
 (pss_one (ps_expr (pe_gsetd (prKD P w) hr.u16 (pv 1) (pv 2) (pe_callB (call_lenG (prKD P w)) rfl T.m_len PySem.boot_len (pa_cons (pv 1) (pa_nil))) ⟨rfl, rfl, rfl, rfl⟩))))
 (pss_one (ps_ret (pe_comp (N := ["marks", "numbers", "mark"]) (sc0 := (defScope s_numbered)) (N' := ["mark", "numbers"]) (caps := [none, some 1]) (by exact ⟨rfl, by decide +kernel, by decide +kernel, by decide +kernel, rfl, rfl, by decide +kernel⟩) rfl (pi_listK K (pv 0)) (fun _ _ _ _ _ _ => pg_name (i := 0) (show List.Nodup (["mark", "numbers"] : List Str) from by decide +kernel) rfl (Or.inl rfl)) (fun _ _ _ _ _ _ => pe_gget (prKD P w) hr.u16 (pv 1) (pv 0) (fun _ _ => rfl)))))), ?_⟩
      repeat walk_at "sx"
      intro nd hnd D0
      have s1 : Same H (upd H nd (.ext (DGAt (prKD P w) nd []))) := Same.upd_new hnd
      generalize upd H nd (.ext (DGAt (prKD P w) nd [])) = H1 at s1 D0 ⊢
      repeat walk_at "sx"
      refine ⟨ma, rfl, ⟨_, SqL.of (s1 _ _ hma)⟩, ?_⟩
      refine for_list (xs := as.map V.ref) (fun i σ H' => Same H H' ∧ DG (prKD P w) H' nd (ddKV (ms.take i)) ∧ ∃ k2, σ = [some (.ref ma), some (.ref nd), k2]) ⟨s1, D0, _, rfl⟩ (fun i σ H' _ pp => SqL.of (pp.1 _ _ hma)) (fun i x σ H2 hx pp => ?_) (fun σ H2 pp => ?_)
      · obtain ⟨s2, D2, k2, rfl⟩ := pp
        have hx0 := ref_map_inv hx
        clear hx
        obtain ⟨a, rfl, hx⟩ := hx0
        have hi : i < ms.length := by rw [← PA.len]; exact (List.getElem?_eq_some_iff.mp hx).1
        have hm := List.getElem?_eq_getElem hi
        generalize ms[i] = m at hm
        obtain ⟨b, b1, b2⟩ := PA.row i a m hx hm
        have hl := dd_len (ms.take i)
        rw [List.length_take] at hl
        have et : ms.take (i + 1) = ms.take i ++ [m] := by rw [List.take_add_one, hm]; rfl
        repeat walk_at "sx"
        refine r_gsetd ?_
        repeat walk_at "sx"
        refine ⟨nd, rfl, ⟨_, D2⟩, ?_⟩
        repeat walk_at "sx"
        refine ⟨nd, _, rfl, D2, ?_⟩
        refine ⟨a, m, _, rfl, ⟨b, s2 _ _ b1, s2 _ _ b2⟩, D2, by rw [ddKV_len]; exact Nat.lt_of_le_of_lt hl (Nat.lt_of_lt_of_le (show min i ms.length < 401 by omega) (by decide)), fun v hv => ?_, fun hn H4 k4 D4 => ?_⟩
        · refine ⟨s2, ?_, _, rfl⟩
          rw [et, ddKV_old hv]; exact D2
        · refine ⟨fun b o e => by rw [k4 b (fun z => by rw [z, hnd] at e; cases e)]; exact s2 b o e, ?_, _, rfl⟩
          rw [ddKV_new hn] at D4
          rw [et]; exact D4
      obtain ⟨s2, D2, k2, rfl⟩ := pp
      rw [List.length_map, PA.len, List.take_length] at D2
      repeat walk_at "sx"
      refine ⟨ma, rfl, ⟨_, SqL.of (s2 _ _ hma)⟩, ?_⟩
      refine comp_list (xs := as.map V.ref) (fun acc j ys H3 => ys = ((ms.take j).map (ixD ms)).map V.int ∧ Same H2 H3 ∧ H3 acc = some (.lst ys)) (fun acc hacc => ⟨rfl, Same.upd_new hacc, upd_same⟩) (fun acc j ys H3 hacc _ pp => SqL.of (pp.2.1 _ _ (s2 _ _ hma))) (fun acc j x ys H3 hacc hx pp => ?_) (fun acc ys H3 hacc pp => ?_)
      · obtain ⟨rfl, s3, a3⟩ := pp
        have hx0 := ref_map_inv hx
        clear hx
        obtain ⟨a, rfl, hx⟩ := hx0
        have hj : j < ms.length := by rw [← PA.len]; exact (List.getElem?_eq_some_iff.mp hx).1
        have hm := List.getElem?_eq_getElem hj
        generalize ms[j] = m at hm
        obtain ⟨b, b1, b2⟩ := PA.row j a m hx hm
        have hv := ddKV_val ms m
        rw [if_pos (List.mem_of_getElem? hm)] at hv
        repeat walk_at "sx"
        refine ⟨Wk.set rfl, ?_⟩
        repeat walk_at "sx"
        refine ⟨nd, a, m, _, _, rfl, rfl, ⟨b, (s2.trans s3) _ _ b1, (s2.trans s3) _ _ b2⟩, D2.same s3, hv, ?_⟩
        refine ⟨a3, small1000 (by simp; omega), ?_, fun b o e => ?_, upd_same⟩
        · rw [List.take_add_one, hm]; simp
        · rw [upd_ne (ne_of_none e hacc)]; exact s3 b o e
      obtain ⟨rfl, s3, a3⟩ := pp
      rw [List.length_map, PA.len, List.take_length, nums_ix] at a3
      repeat walk_at "sx"
      exact q H3 acc (s2.trans s3) (s2.free hacc) a3
/-! #### parted_further -/
theorem sc_parted_further : FnScope ["house", "kinds", "marks", "room", "row"] ["house", "kinds"] (defScope s_parted_further) := ⟨rfl, rfl, rfl, by decide +kernel, rfl, by decide +kernel, by decide +kernel⟩
theorem b_parted_further (T : Txt K mg t) : Binds K t.fd_parted_further ["house", "kinds"] [] := T.F_parted_further.binds fun _ _ _ _ _ _ us hl => by obtain ⟨_, _, rfl⟩ := len_2 hl; rfl
def sp_parted_further (K : PySem.W.Frag) (C : Addr) : Sp := fun vs H Q _ => ∃ (p : Addr) (d : Int) (aw : Addr) (rs : List Addr) (rss : List (List Int)) (al : Addr) (ls : List Bool) (ka : Addr) (ks : List Int), vs = [.ref p, .ref ka] ∧ HouseAt C H p d aw rs rss al ls ∧ Ways d rss ∧ d ≤ 6 ∧ rss.length ≤ 400 ∧ H ka = some (.lst (ks.map V.int)) ∧ ks.length = rss.length ∧
  ∀ H' l, Same H H' → H l = none → H' l = some (.lst ((numsOf (marksK rss ks)).map V.int)) → Q (.ref l) H'
theorem ok_parted_further (T : Txt K mg t) : FnOk P w K mg base CX0 2 t.f_parted_further t.fd_parted_further ["house", "kinds"] (sp_parted_further K t.C_House) := by
  refine T.F_parted_further.ok sc_parted_further (fun vs H Q E h => ?_) (fun cdv A outer s H vs Q E hr h => ?_)
  · obtain ⟨p, d, aw, rs, rss, al, ls, ka, ks, rfl, _⟩ := h
    rfl
  · obtain ⟨p, d, aw, rs, rss, al, ls, ka, ks, rfl, hh, W, hd6, h400, hka, hkl, q⟩ := h
    obtain ⟨dx, ho⟩ := hh.ob
    have hml := marksK_len rss ks
    refine ⟨_, pss_cons (ps_set (i := 2) sc_parted_further.nd rfl (Or.inl rfl) (pe_lst (pa_nil)))
 (pss_cons (ps_for PassesOwn.never rfl (pi_enumK K rfl T.m_enumerate (pa_cons (pe_fldK K (pv 0) rfl) (pa_nil))) (pg_tupK K (n := 2) rfl (pgs_cons (pg_name (i := 3) sc_parted_further.nd rfl (Or.inl rfl)) (pgs_cons (pg_name (i := 4) sc_parted_further.nd rfl (Or.inl rfl)) (pgs_nil))))
 (pss_one (ps_expr (pe_bmK K PySem.F.plainAttrs_list PySem.F.slot_list_append PySem.F.type_list_append mt_append (pv 2) (pa_cons (pe_tup (pa_cons (pe_ix (ix_listK K) (pv 1) (pv 3) (fun _ _ => rfl)) (pa_cons (pe_callTy (call_tuple_ofK K) rfl T.m_tuple boot_tuple (pa_cons (pe_comp (N := ["house", "kinds", "marks", "room", "row"]) (sc0 := (defScope s_parted_further)) (N' := ["way", "kinds"]) (caps := [none, some 1]) (by exact ⟨rfl, by decide +kernel, by decide +kernel, by decide +kernel, rfl, rfl, by decide +kernel⟩) rfl (pi_listK K (pv 4)) (fun _ _ _ _ _ _ => pg_name (i := 0) (show List.Nodup (["way", "kinds"] : List Str) from by decide +kernel) rfl (Or.inl rfl)) (fun _ _ _ _ _ _ => pe_ix (ix_listK K) (pv 1) (pv 0) (fun _ _ => rfl))) (pa_nil))) (pa_nil)))) (pa_nil))))))
 (pss_one (ps_ret (pe_call (ok_numbered T) (hr.mono (by decide)) rfl T.mg_numbered T.F_numbered.kp (b_numbered T) .nil pass0 (pa_cons (pv 2) (pa_nil)))))), ?_⟩
    repeat walk_at "sx"
    refine ⟨Nat.zero_le _, fun mk hmk => ?_⟩
    have s1 : Same H (upd H mk (.lst [])) := Same.upd_new hmk
    have m1 : (upd H mk (.lst [])) mk = some (.lst (([] : List Addr).map V.ref)) := upd_same
    generalize upd H mk (.lst []) = H1 at s1 m1 ⊢
    repeat walk_at "sx"
    refine ⟨_, rfl, p, _, dx, _, _, rfl, s1 _ _ ho, T.cl_House, T.na_House_ways, hfs_ways _ _ _, ?_⟩
    refine ⟨aw, rfl, ⟨_, SqL.of (s1 _ _ hh.ways.top)⟩, ?_⟩
    refine for_enum (xs := rs.map V.ref) (fun i σ H' => ∃ as, Same H H' ∧ H' mk = some (.lst (as.map V.ref)) ∧ PairsAt H' as ((marksK rss ks).take i) ∧ ∃ k3 k4, σ = [some (.ref p), some (.ref ka), some (.ref mk), k3, k4]) ⟨[], s1, m1, ⟨rfl, fun i a m h => by simp at h⟩, _, _, rfl⟩ (fun i σ H' _ pp => by obtain ⟨_, s, _⟩ := pp; exact SqL.of (s _ _ hh.ways.top)) (fun i x σ H2 tp hx pp htp => ?_) (fun σ H2 pp => ?_)
    · obtain ⟨as, s2, m2, PA, k3, k4, rfl⟩ := pp
      have hx0 := ref_map_inv hx
      clear hx
      obtain ⟨r, rfl, hx⟩ := hx0
      have hi : i < rss.length := by rw [← hh.ways.len]; exact (List.getElem?_eq_some_iff.mp hx).1
      have hei := List.getElem?_eq_getElem hi
      generalize rss[i] = row at hei
      have hrow := s2 _ _ (hh.ways.row i r row hx hei)
      obtain ⟨hrl, hrx⟩ := W.row row (List.mem_of_getElem? hei)
      have hmi := marksK_get (K := ks) hei
      have hasl : as.length = i := by rw [PA.len, List.length_take, hml]; omega
      have hka2 := s2 _ _ hka
      refine ⟨tp, _, rfl, SqT.of upd_same, rfl, _, _, rfl, ?_⟩
      have s3 : Same H2 (upd H2 tp (.tup [.int (i : Int), .ref r])) := Same.upd_new htp
      generalize upd H2 tp (.tup [.int (i : Int), .ref r]) = H3 at s3 ⊢
      repeat walk_at "sx"
      refine ⟨_, _, rfl, ?_⟩
      repeat walk_at "sx"
      refine ⟨rfl, ?_⟩
      repeat walk_at "sx"
      refine ⟨.inl ⟨rfl, _, SqL.of (s3 _ _ m2)⟩, ?_⟩
      repeat walk_at "sx"
      refine r_ixL (SqL.of (s3 _ _ hka2)) (atI_get' (by omega) (int_map_get (kAt_get (K := ks) (q := (i : Int)) (by omega) (by omega)))) ?_
      repeat walk_at "sx"
      refine ⟨r, rfl, ⟨_, SqL.of (s3 _ _ hrow)⟩, ?_⟩
      have hrow3 := s3 _ _ hrow
      have hka3 := s3 _ _ hka2
      refine comp_list (xs := row.map V.int) (fun acc j ys H4 => ys = ((row.take j).map (kAt ks)).map V.int ∧ H4 = upd H3 acc (.lst ys)) (fun acc hacc => ⟨rfl, rfl⟩) (fun acc j ys H4 hacc _ pp => by rw [pp.2]; exact SqL.of (by rw [upd_ne (ne_of_none hrow3 hacc)]; exact hrow3)) (fun acc j x ys H4 hacc hx pp => ?_) (fun acc ys H4 hacc pp => ?_)
      · obtain ⟨rfl, rfl⟩ := pp
        have hx0 := int_map_inv hx
        clear hx
        obtain ⟨x, rfl, hx⟩ := hx0
        obtain ⟨x0, x1⟩ := hrx x (List.mem_of_getElem? hx)
        have hj : j < row.length := (List.getElem?_eq_some_iff.mp hx).1
        have hk4 : (upd H3 acc (.lst (((row.take j).map (kAt ks)).map V.int))) ka = some (.lst (ks.map V.int)) := by rw [upd_ne (ne_of_none hka3 hacc)]; exact hka3
        repeat walk_at "sx"
        refine ⟨Wk.set rfl, ?_⟩
        repeat walk_at "sx"
        refine r_ixL (SqL.of hk4) (atI_get' x0 (int_map_get (kAt_get (K := ks) x0 (by omega)))) ?_
        refine ⟨upd_same, small1000 (by simp; omega), ?_, ?_⟩
        · rw [List.take_add_one, hx]; simp
        · rw [upd_upd]
      obtain ⟨rfl, rfl⟩ := pp
      rw [List.length_map, List.take_length]
      have s4 : Same H3 (upd H3 acc (.lst ((row.map (kAt ks)).map V.int))) := Same.upd_new hacc
      have a4 : (upd H3 acc (.lst ((row.map (kAt ks)).map V.int))) acc = some (.lst ((row.map (kAt ks)).map V.int)) := upd_same
      generalize upd H3 acc (.lst ((row.map (kAt ks)).map V.int)) = H4 at s4 a4 ⊢
      repeat walk_at "sx"
      refine ⟨acc, _, rfl, .inl ⟨SqL.of a4, fun kt hkt => ?_⟩⟩
      have s5 : Same H4 (upd H4 kt (.tup ((row.map (kAt ks)).map V.int))) := Same.upd_new hkt
      have kt5 : (upd H4 kt (.tup ((row.map (kAt ks)).map V.int))) kt = some (.tup ((row.map (kAt ks)).map V.int)) := upd_same
      generalize upd H4 kt (.tup ((row.map (kAt ks)).map V.int)) = H5 at s5 kt5 ⊢
      repeat walk_at "sx"
      refine ⟨by show 2 ≤ sizeLine; decide, fun pt hpt => ?_⟩
      have s6 : Same H5 (upd H5 pt (.tup [.int (kAt ks (i : Int)), .ref kt])) := Same.upd_new hpt
      have pt6 : (upd H5 pt (.tup [.int (kAt ks (i : Int)), .ref kt])) pt = some (.tup [.int (kAt ks (i : Int)), .ref kt]) := upd_same
      generalize upd H5 pt (.tup [.int (kAt ks (i : Int)), .ref kt]) = H6 at s6 pt6 ⊢
      have s26 : Same H2 H6 := s3.trans (s4.trans (s5.trans s6))
      have m6 := s26 _ _ m2
      refine ⟨mk, _, _, rfl, rfl, m6, small1000 (by rw [List.length_map]; omega), ?_⟩
      have tk : ∀ b xs, H6 b = some (.tup xs) → (upd H6 mk (.lst (as.map V.ref ++ [.ref pt]))) b = some (.tup xs) := fun b xs e => by rw [upd_ne (fun z => by rw [z, m6] at e; cases e)]; exact e
      refine ⟨as ++ [pt], fun b o e => ?_, by rw [upd_same, List.map_append]; rfl, ⟨?_, fun j a m h1 h2 => ?_⟩, _, _, rfl⟩
      · rw [upd_ne (fun z => by rw [z, hmk] at e; cases e)]; exact s26 _ _ (s2 b o e)
      · rw [List.length_append, hasl, List.length_take, hml]; simp; omega
      · rw [List.take_add_one, hmi] at h2
        by_cases hj : j < i
        · rw [List.getElem?_append_left (by omega)] at h1
          rw [List.getElem?_append_left (by rw [List.length_take, hml]; omega)] at h2
          obtain ⟨b, b1, b2⟩ := PA.row j a m h1 h2
          exact ⟨b, tk _ _ (s26 _ _ b1), tk _ _ (s26 _ _ b2)⟩
        · have hjl := (List.getElem?_eq_some_iff.mp h1).1
          rw [List.length_append, List.length_singleton, hasl] at hjl
          have : j = i := by omega
          subst this
          rw [← hasl, List.getElem?_append_right (Nat.le_refl _), Nat.sub_self] at h1
          rw [List.getElem?_append_right (by rw [List.length_take, hml]; omega), List.length_take, hml, Nat.min_eq_left (by omega), Nat.sub_self] at h2
          cases h1; cases h2
          exact ⟨kt, tk _ _ pt6, tk _ _ (s6 _ _ kt5)⟩
    obtain ⟨as, s2, m2, PA, k3, k4, rfl⟩ := pp
    rw [List.length_map, hh.ways.len, ← hml, List.take_length] at PA
    repeat walk_at "sx"
    exact .inr ⟨mk, as, _, rfl, m2, PA, by rw [hml]; exact h400, fun H3 l s3 hl hl3 => q H3 l (s2.trans s3) (s2.free hl) hl3⟩
/-! #### kinds_of_rooms -/
theorem sc_kinds_of_rooms : FnScope ["house", "kinds", "finer"] ["house"] (defScope s_kinds_of_rooms) := ⟨rfl, rfl, rfl, by decide +kernel, rfl, by decide +kernel, by decide +kernel⟩
theorem b_kinds_of_rooms (T : Txt K mg t) : Binds K t.fd_kinds_of_rooms ["house"] [] := T.F_kinds_of_rooms.binds fun _ _ _ _ _ _ us hl => by obtain ⟨_, rfl⟩ := len_1 hl; rfl
theorem kd_max {T : List (List Int)} {ls : List Bool} (hl : ls.length = T.length) (n0 : 0 < T.length) (n : Nat) {M : Int} (hm : M ∈ kdN T ls n) (hx : ∀ x ∈ kdN T ls n, x ≤ M) : M = (kcN T ls n : Int) - 1 := by
  obtain ⟨i, hi⟩ := List.getElem?_of_mem hm
  have h1 := (List.getElem?_eq_some_iff.mp hi).1
  rw [kdN_len hl n] at h1
  have h2 := kdN_lt (ls := ls) hl n (a := (i : Int)) (by omega) (by omega)
  have e : kAt (kdN T ls n) (i : Int) = M := by unfold kAt; rw [Int.toNat_natCast, List.getD_eq_getElem?_getD, hi]; rfl
  rw [e] at h2
  have hc : 0 < kcN T ls n := by omega
  obtain ⟨a, a0, a1, a2⟩ := kdN_rep (ls := ls) hl n (c := kcN T ls n - 1) (by omega)
  have := hx _ (List.mem_of_getElem? (kAt_get a0 (by rw [kdN_len hl n]; exact a1)))
  rw [a2] at this
  omega
def sp_kinds_of_rooms (K : PySem.W.Frag) (C : Addr) : Sp := fun vs H Q _ => ∃ (p : Addr) (d : Int) (aw : Addr) (rs : List Addr) (rss : List (List Int)) (al : Addr) (ls : List Bool), vs = [.ref p] ∧ HouseAt C H p d aw rs rss al ls ∧ Valid d rss ls ∧
  ∀ H' l n, Same H H' → H l = none → H' l = some (.lst ((kdN rss ls n).map V.int)) → kcN rss ls (n + 1) ≤ kcN rss ls n → Q (.ref l) H'
theorem ok_kinds_of_rooms (T : Txt K mg t) : FnOk P w K mg base CX0 3 t.f_kinds_of_rooms t.fd_kinds_of_rooms ["house"] (sp_kinds_of_rooms K t.C_House) := by
  refine T.F_kinds_of_rooms.ok sc_kinds_of_rooms (fun vs H Q E h => ?_) (fun cdv A outer s H vs Q E hr h => ?_)
  · obtain ⟨p, d, aw, rs, rss, al, ls, rfl, _⟩ := h
    rfl
  · obtain ⟨p, d, aw, rs, rss, al, ls, rfl, hh, Vd, q⟩ := h
    obtain ⟨dx, ho⟩ := hh.ob
    have W := Vd.toWays
    have n0 : 0 < rss.length := Vd.r1
    have h400 := Vd.r400
    have hll := Vd.ll
    refine ⟨_, pss_cons (ps_set (i := 1) sc_kinds_of_rooms.nd rfl (Or.inl rfl) (pe_call (ok_numbered T) (hr.mono (by decide)) rfl T.mg_numbered T.F_numbered.kp (b_numbered T) .nil pass0 (pa_cons (pe_fldK K (pv 0) rfl) (pa_nil))))
 (pss_cons (ps_set (i := 2) sc_kinds_of_rooms.nd rfl (Or.inl rfl) (pe_call (ok_parted_further T) (hr.mono (by decide)) rfl T.mg_parted_further T.F_parted_further.kp (b_parted_further T) .nil pass0 (pa_cons (pv 0) (pa_cons (pv 1) (pa_nil)))))
 (pss_cons (ps_while PassesOwn.never (pt_cmpR op_gt (pe_callB (call_maxIK K rfl) rfl T.m_max boot_max (pa_cons (pv 2) (pa_nil))) (pe_callB (call_maxIK K rfl) rfl T.m_max boot_max (pa_cons (pv 1) (pa_nil))) (nomark _))
 (pss_cons (ps_set (i := 1) sc_kinds_of_rooms.nd rfl (Or.inl rfl) (pv 2))
 (pss_one (ps_set (i := 2) sc_kinds_of_rooms.nd rfl (Or.inl rfl) (pe_call (ok_parted_further T) (hr.mono (by decide)) rfl T.mg_parted_further T.F_parted_further.kp (b_parted_further T) .nil pass0 (pa_cons (pv 0) (pa_cons (pv 1) (pa_nil))))))))
 (pss_one (ps_ret (pv 1))))), ?_⟩
    repeat walk_at "sx"
    refine ⟨_, rfl, p, _, dx, _, _, rfl, ho, T.cl_House, T.na_House_lamps, hfs_lamps _ _ _, ?_⟩
    repeat walk_at "sx"
    refine .inl ⟨al, ls, rfl, hh.lamps, by omega, fun H1 ka s1 hka hk1 => ?_⟩
    repeat walk_at "sx"
    refine ⟨p, d, aw, rs, rss, al, ls, ka, kdN rss ls 0, rfl, hh.same s1, W, Vd.d6, h400, hk1, kdN_len hll 0, fun H2 fa s2 hfa hf2 => ?_⟩
    repeat walk_at "sx"
    refine ⟨fun m σ H' => ∃ (n : Nat) (ka fa : Addr), m = rss.length - kcN rss ls n ∧ Same H H' ∧ H ka = none ∧ H' ka = some (.lst ((kdN rss ls n).map V.int)) ∧ H fa = none ∧ H' fa = some (.lst ((kdN rss ls (n + 1)).map V.int)) ∧ σ = [some (.ref p), some (.ref ka), some (.ref fa)], ⟨_, 0, ka, fa, rfl, s1.trans s2, hka, s2 _ _ hk1, s1.free hfa, hf2, rfl⟩, ?_⟩
    clear hk1 hf2 hfa hka s1 s2 ka fa
    rintro m σ H3 ⟨n, ka, fa, rfl, s3, hka, hk3, hfa, hf3, rfl⟩
    have l1 := kdN_len (T := rss) hll n
    have l2 := kdN_len (T := rss) hll (n + 1)
    have cl := kcN_len (T := rss) hll (n + 1)
    repeat walk_at "sx"
    refine ⟨fa, _, rfl, SqL.of hf3, by omega, fun M1 hM1 hx1 => ?_⟩
    have e1 := kd_max hll n0 (n + 1) hM1 hx1
    repeat walk_at "sx"
    refine ⟨ka, _, rfl, SqL.of hk3, by omega, fun M2 hM2 hx2 => ?_⟩
    have e2 := kd_max hll n0 n hM2 hx2
    repeat walk_at "sx"
    refine r_ite (fun hc => ?_) (fun hc => ?_)
    · have hc : M2 < M1 := by simpa using hc
      refine ⟨fun σ' H' => ∃ (ka fa : Addr), Same H H' ∧ H ka = none ∧ H' ka = some (.lst ((kdN rss ls (n + 1)).map V.int)) ∧ H fa = none ∧ H' fa = some (.lst ((kdN rss ls (n + 2)).map V.int)) ∧ σ' = [some (.ref p), some (.ref ka), some (.ref fa)], fun σ' H' ⟨ka, fa, z1, z2, z3, z4, z5, z6⟩ => ⟨rss.length - kcN rss ls (n + 1), by omega, n + 1, ka, fa, rfl, z1, z2, z3, z4, z5, z6⟩, ?_⟩
      repeat walk_at "sx"
      refine ⟨p, d, aw, rs, rss, al, ls, fa, kdN rss ls (n + 1), rfl, hh.same s3, W, Vd.d6, h400, hf3, l2, fun H4 ga s4 hga hg4 => ?_⟩
      repeat walk_at "sx"
      exact ⟨fa, ga, s3.trans s4, hfa, s4 _ _ hf3, s3.free hga, hg4, rfl⟩
    · have hc : ¬ M2 < M1 := by simpa using hc
      repeat walk_at "sx"
      exact q H3 ka n s3 hka hk3 (by omega)
/-! #### fewest -/
theorem sc_fewest : FnScope ["house", "trimmed", "kinds", "firsts"] ["house"] (defScope s_fewest) := ⟨rfl, rfl, rfl, by decide +kernel, rfl, by decide +kernel, by decide +kernel⟩
theorem b_fewest (T : Txt K mg t) : Binds K t.fd_fewest ["house"] [] := T.F_fewest.binds fun _ _ _ _ _ _ us hl => by obtain ⟨_, rfl⟩ := len_1 hl; rfl
def sp_fewest (C : Addr) : Sp := fun vs H Q _ => ∃ (p : Addr) (d : Int) (aw : Addr) (rs : List Addr) (rss : List (List Int)) (al : Addr) (ls : List Bool), vs = [.ref p] ∧ HouseAt C H p d aw rs rss al ls ∧ Valid d rss ls ∧
  ∀ H' gp gw gs gl K m, Same H H' → QK d (trimR rss) (trimL rss ls) K m → HouseAt C H' gp d gw gs (quotR (trimR rss) K m) gl (quotL (trimL rss ls) K m) → Q (.ref gp) H'
theorem ok_fewest (T : Txt K mg t) : FnOk P w K mg base CX0 7 t.f_fewest t.fd_fewest ["house"] (sp_fewest t.C_House) := by
  refine T.F_fewest.ok sc_fewest (fun vs H Q E h => ?_) (fun cdv A outer s H vs Q E hr h => ?_)
  · obtain ⟨p, d, aw, rs, rss, al, ls, rfl, _⟩ := h
    rfl
  · obtain ⟨p, d, aw, rs, rss, al, ls, rfl, hh, Vd, q⟩ := h
    have Vt := trim_valid Vd
    refine ⟨_, pss_cons (ps_set (i := 1) sc_fewest.nd rfl (Or.inl rfl) (pe_call (ok_without_unreached T) (hr.mono (by decide)) rfl T.mg_without_unreached T.F_without_unreached.kp (b_without_unreached T) .nil pass0 (pa_cons (pv 0) (pa_nil))))
 (pss_cons (ps_set (i := 2) sc_fewest.nd rfl (Or.inr rfl) (pe_call (ok_kinds_of_rooms T) (hr.mono (by decide)) rfl T.mg_kinds_of_rooms T.F_kinds_of_rooms.kp (b_kinds_of_rooms T) .nil pass0 (pa_cons (pv 1) (pa_nil))))
 (pss_cons (ps_setC (i := 3) (N := ["house", "trimmed", "kinds", "firsts"]) (sc0 := (defScope s_fewest)) (N' := ["kind", "kinds"]) (caps := [none, some 2]) (by exact ⟨rfl, by decide +kernel, by decide +kernel, by decide +kernel, rfl, rfl, by decide +kernel⟩) rfl sc_fewest.nd rfl (Or.inl rfl) (pi_range1 rfl T.m_range (pa_cons (pe_op op_add (pe_callB (call_maxIK K rfl) rfl T.m_max boot_max (pa_cons (pv 2) (pa_nil))) (pe_int)) (pa_nil))) (fun _ _ _ _ _ _ => pg_name (i := 0) (show List.Nodup (["kind", "kinds"] : List Str) from by decide +kernel) rfl (Or.inl rfl)) (fun _ _ _ _ _ _ => pe_bmK K PySem.F.plainAttrs_list PySem.F.slot_list_index PySem.F.type_list_index (mt_indexI K hr.u80) (pv 1) (pa_cons (pv 0) (pa_nil))))
 (pss_one (ps_ret (pe_call (ok_with_rooms T) (hr.mono (by decide)) rfl T.mg_with_rooms T.F_with_rooms.kp (b_with_rooms T) .nil pass0 (pa_cons (pv 1) (pa_cons (pv 3) (pa_cons (pv 2) (pa_nil))))))))), ?_⟩
    repeat walk_at "sx"
    refine ⟨p, d, aw, rs, rss, al, ls, rfl, hh, Vd, fun H1 tp tw ts tl s1 ht => ?_⟩
    generalize trimR rss = T0 at Vt q ht
    generalize trimL rss ls = L0 at Vt q ht
    have W := Vt.toWays
    have n0 : 0 < T0.length := Vt.r1
    have h400 := Vt.r400
    have hll := Vt.ll
    repeat walk_at "sx"
    refine ⟨tp, d, tw, ts, T0, tl, L0, rfl, ht, Vt, fun H2 ka n s2 hka hk2 hc => ?_⟩
    have Qk := QK.of W n0 hll hc
    have kl := kdN_len (T := T0) hll n
    have cl := kcN_len (T := T0) hll n
    have mx : ∀ {M : Int}, M ∈ kdN T0 L0 n → (∀ x ∈ kdN T0 L0 n, x ≤ M) → M = (kcN T0 L0 n : Int) - 1 := fun h1 h2 => kd_max hll n0 n h1 h2
    generalize kdN T0 L0 n = ks at Qk kl mx hk2
    generalize kcN T0 L0 n = m at Qk cl mx
    clear hc
    have m0 := Qk.m0
    repeat walk_at "sx"
    refine ⟨ka, _, rfl, SqL.of hk2, by omega, fun M hM hx => ?_⟩
    have eM := mx hM hx
    repeat walk_at "sx"
    refine ⟨_, rfl, by omega, by omega, ?_⟩
    have eN : (M + 1).toNat = m := by omega
    refine comp_range (fun acc j ys H3 => ys = ((List.range j).map fun (c : Nat) => ((ks.idxOf (c : Int) : Nat) : Int)).map V.int ∧ H3 = upd H2 acc (.lst ys)) (fun acc hacc => ⟨rfl, rfl⟩) (fun acc j ys H3 hacc hj pp => ?_) (fun acc ys H3 hacc pp => ?_)
    · obtain ⟨rfl, rfl⟩ := pp
      have e0 : (0 : Int) + (j : Int) = (j : Int) := by omega
      rw [e0]
      have hjm : j < m := by omega
      have hk3 : (upd H2 acc (.lst (((List.range j).map fun (c : Nat) => ((ks.idxOf (c : Int) : Nat) : Int)).map V.int))) ka = some (.lst (ks.map V.int)) := by rw [upd_ne (ne_of_none hk2 hacc)]; exact hk2
      repeat walk_at "sx"
      refine ⟨Wk.set rfl, ?_⟩
      repeat walk_at "sx"
      refine ⟨.inl ⟨rfl, _, SqL.of hk3⟩, ?_⟩
      repeat walk_at "sx"
      refine ⟨ka, (j : Int), ks, rfl, rfl, SqL.of hk3, Qk.all hjm, ?_⟩
      refine ⟨upd_same, small1000 (by simp; omega), ?_, ?_⟩
      · rw [List.range_succ]; simp
      · rw [upd_upd]
    obtain ⟨rfl, rfl⟩ := pp
    rw [eN]
    have s3 : Same H2 (upd H2 acc (.lst (((List.range m).map fun (c : Nat) => ((ks.idxOf (c : Int) : Nat) : Int)).map V.int))) := Same.upd_new hacc
    have a3 : (upd H2 acc (.lst (((List.range m).map fun (c : Nat) => ((ks.idxOf (c : Int) : Nat) : Int)).map V.int))) acc = some (.lst (((List.range m).map fun (c : Nat) => ((ks.idxOf (c : Int) : Nat) : Int)).map V.int)) := upd_same
    generalize upd H2 acc (.lst (((List.range m).map fun (c : Nat) => ((ks.idxOf (c : Int) : Nat) : Int)).map V.int)) = H3 at s3 a3 ⊢
    have eR : (((List.range m).map fun (c : Nat) => ((ks.idxOf (c : Int) : Nat) : Int)).map fun r => (T0.getD r.toNat []).map (kAt ks)) = quotR T0 ks m := by
      unfold quotR; rw [List.map_map]; rfl
    have eL : (((List.range m).map fun (c : Nat) => ((ks.idxOf (c : Int) : Nat) : Int)).map (lampI L0)) = quotL L0 ks m := by
      unfold quotL; rw [List.map_map]; rfl
    have Vq : Valid d (quotR T0 ks m) (quotL L0 ks m) := { row := Qk.ways.row, d1 := Vt.d1, d6 := Vt.d6, r1 := by rw [quotR_len]; omega, r400 := by rw [quotR_len]; omega, ll := by rw [quotR_len, quotL_len] }
    repeat walk_at "sx"
    refine ⟨tp, d, tw, ts, T0, tl, L0, acc, ka, (List.range m).map fun (c : Nat) => ((ks.idxOf (c : Int) : Nat) : Int), kAt ks, rfl, ht.same (s2.trans s3), W, hll, a3, fun r hr => ?_, fun r hr row hrow => .inr ⟨ks, s3 _ _ hk2, fun x hx => ?_⟩, ?_, ⟨_, s3 _ _ hk2⟩, fun H4 gp gw gs gl s4 hg => ?_⟩
    · obtain ⟨c, hc, rfl⟩ := List.mem_map.mp hr
      have := (Qk.first (List.mem_range.mp hc)).1
      omega
    · have := (W.row row (List.mem_of_getElem? hrow)).2 x hx
      exact ⟨this.1, by omega, rfl⟩
    · rw [eR, eL]; exact Vq
    · rw [eR, eL] at hg
      exact q H4 gp gw gs gl ks m (s1.trans (s2.trans (s3.trans s4))) Qk hg
/-! #### l_cell_at -/
theorem sc_l_cell_at : FnScope ["script", "k"] ["script", "k"] (defScope s_l_cell_at) := ⟨rfl, rfl, rfl, by decide +kernel, rfl, by decide +kernel, by decide +kernel⟩
theorem b_l_cell_at (T : Txt K mg t) : Binds K t.fd_l_cell_at ["script", "k"] [] := T.F_l_cell_at.binds fun _ _ _ _ _ _ us hl => by obtain ⟨_, _, rfl⟩ := len_2 hl; rfl
def sp_l_cell_at (K : PySem.W.Frag) : Sp := fun vs H Q _ => ∃ (a : Addr) (ns : List Int) (k : Int), vs = [.ref a, .int k] ∧ SqL K H a (ns.map V.int) ∧ 0 ≤ k ∧ Q (.int (cellv ns k)) H
theorem ok_l_cell_at (T : Txt K mg t) : FnOk P w K mg base CX0 1 t.f_l_cell_at t.fd_l_cell_at ["script", "k"] (sp_l_cell_at K) := by
  refine T.F_l_cell_at.ok sc_l_cell_at (fun vs H Q E h => ?_) (fun cdv A outer s H vs Q E hr h => ?_)
  · obtain ⟨a, ns, k, rfl, _⟩ := h
    rfl
  · obtain ⟨a, ns, k, rfl, hS, h0, q⟩ := h
    refine ⟨_, pss_cons (ps_if (pt_cmpR op_lt (pv 1) (pe_callB (call_len_seqK K) rfl T.m_len PySem.boot_len (pa_cons (pv 0) (pa_nil))) (nomark _))
 (pss_one (ps_ret (pe_ix (ix_listK K) (pv 0) (pv 1) (fun _ _ => rfl))))
 (pss_nil))
 (pss_one (ps_ret (pe_int))), ?_⟩
    repeat walk_at "sx"
    refine ⟨a, _, rfl, .inl hS, ?_⟩
    repeat walk_at "sx"
    refine r_ite (fun hc => ?_) (fun hc => ?_)
    · have hc : k < (ns.map V.int).length := of_decide_eq_true hc
      rw [List.length_map] at hc
      have hn : k.toNat < ns.length := by omega
      repeat walk_at "sx"
      refine r_ixL hS (atI_get' h0 (int_map_get (List.getElem?_eq_getElem hn))) ?_
      have e : cellv ns k = ns[k.toNat] := by
        unfold cellv
        rw [if_pos hc, List.getD_eq_getElem?_getD, List.getElem?_eq_getElem hn, Option.getD_some]
      rw [e] at q
      exact q
    · have hc : ¬ k < (ns.map V.int).length := of_decide_eq_false hc
      rw [List.length_map] at hc
      repeat walk_at "sx"
      have e : cellv ns k = 0 := by unfold cellv; rw [if_neg hc]
      rw [e] at q
      exact q
/-! #### l_draw -/
theorem sc_l_draw : FnScope ["cell", "k", "bound", "stir"] ["cell", "k", "bound"] (defScope s_l_draw) := ⟨rfl, rfl, rfl, by decide +kernel, rfl, by decide +kernel, by decide +kernel⟩
theorem b_l_draw (T : Txt K mg t) : Binds K t.fd_l_draw ["cell", "k", "bound"] [] := T.F_l_draw.binds fun _ _ _ _ _ _ us hl => by obtain ⟨_, _, _, rfl⟩ := len_3 hl; rfl
def sp_l_draw : Sp := fun vs H Q _ => ∃ c k b : Int, vs = [.int c, .int k, .int b] ∧ 0 < b ∧ Q (.int (draw c k b)) H
theorem ok_l_draw (T : Txt K mg t) : FnOk P w K mg base CX0 1 t.f_l_draw t.fd_l_draw ["cell", "k", "bound"] (sp_l_draw) := by
  refine T.F_l_draw.ok sc_l_draw (fun vs H Q E h => ?_) (fun cdv A outer s H vs Q E hr h => ?_)
  · obtain ⟨c, k, b, rfl, _⟩ := h
    rfl
  · obtain ⟨c, k, b, rfl, hb, q⟩ := h
    refine ⟨_, pss_cons (ps_set (i := 3) sc_l_draw.nd rfl (Or.inl rfl) (pe_op op_mod (pe_op op_mul (pe_op op_add (pe_op op_add (pe_op op_mod (pv 0) (pe_int)) (pe_op op_mul (pe_int) (pv 1))) (pe_int)) (pe_int)) (pe_int)))
 (pss_cons (ps_set (i := 3) sc_l_draw.nd rfl (Or.inl rfl) (pe_op op_mod (pe_op op_mul (pe_op op_add (pv 3) (pe_op op_mul (pe_int) (pe_op op_add (pv 1) (pe_int)))) (pe_int)) (pe_int)))
 (pss_one (ps_ret (pe_op op_mod (pe_op op_fdiv (pv 3) (pe_int)) (pv 2))))), ?_⟩
    repeat walk_at "sx"
    exact q
/-! #### l_ways_by -/
theorem sc_l_ways_by : FnScope ["cell", "doors", "rooms", "ways", "k"] ["cell", "doors", "rooms"] (defScope s_l_ways_by) := ⟨rfl, rfl, rfl, by decide +kernel, rfl, by decide +kernel, by decide +kernel⟩
theorem b_l_ways_by (T : Txt K mg t) : Binds K t.fd_l_ways_by ["cell", "doors", "rooms"] [] := T.F_l_ways_by.binds fun _ _ _ _ _ _ us hl => by obtain ⟨_, _, _, rfl⟩ := len_3 hl; rfl
def sp_l_ways_by : Sp := fun vs H Q _ => ∃ c d r : Int, vs = [.int c, .int d, .int r] ∧ 0 ≤ d ∧ d ≤ 1000 ∧ 0 ≤ r ∧ r ≤ 1000 ∧
  ∀ (a : Addr) (rs : List Addr) (H' : Hp), Same H H' → Mat H' a rs (waysBy c d r) → (∀ b ∈ a :: rs, H b = none) → Q (.ref a) H'
theorem ok_l_ways_by (T : Txt K mg t) : FnOk P w K mg base CX0 2 t.f_l_ways_by t.fd_l_ways_by ["cell", "doors", "rooms"] (sp_l_ways_by) := by
  refine T.F_l_ways_by.ok sc_l_ways_by (fun vs H Q E h => ?_) (fun cdv A outer s H vs Q E hr h => ?_)
  · obtain ⟨c, d, r, rfl, _⟩ := h
    rfl
  · obtain ⟨c, d, r, rfl, hd0, hd1, hr0, hr1, q⟩ := h
    refine ⟨_, pss_cons (ps_set (i := 3) sc_l_ways_by.nd rfl (Or.inl rfl) (pe_lst (pa_nil)))
 (pss_cons (ps_for PassesOwn.never rfl (pi_range1 rfl T.m_range (pa_cons (pv 2) (pa_nil))) (pg_name (i := 4) sc_l_ways_by.nd rfl (Or.inr rfl))
 (pss_one (ps_expr (pe_bmK K PySem.F.plainAttrs_list PySem.F.slot_list_append PySem.F.type_list_append mt_append (pv 3) (pa_cons (pe_comp (N := ["cell", "doors", "rooms", "ways", "k"]) (sc0 := (defScope s_l_ways_by)) (N' := ["door", "cell", "k", "rooms"]) (caps := [none, some 0, some 4, some 2]) (by exact ⟨rfl, by decide +kernel, by decide +kernel, by decide +kernel, rfl, rfl, by decide +kernel⟩) rfl (pi_range1 rfl T.m_range (pa_cons (pv 1) (pa_nil))) (fun _ _ _ _ _ _ => pg_name (i := 0) (show List.Nodup (["door", "cell", "k", "rooms"] : List Str) from by decide +kernel) rfl (Or.inl rfl)) (fun _ _ _ _ _ _ => pe_call (ok_l_draw T) (hr.mono (by decide)) rfl T.mg_l_draw T.F_l_draw.kp (b_l_draw T) .nil pass0 (pa_cons (pv 1) (pa_cons (pe_op op_add (pe_op op_mul (pe_int) (pv 2)) (pv 0)) (pa_cons (pv 3) (pa_nil)))))) (pa_nil))))))
 (pss_one (ps_ret (pv 3)))), ?_⟩
    repeat walk_at "sx"
    refine ⟨Nat.zero_le _, fun l hl => ?_⟩
    repeat walk_at "sx"
    refine ⟨_, rfl, by omega, by omega, ?_⟩
    refine for_range (fun i σ H' => ∃ rs kv, σ = [some (.int c), some (.int d), some (.int r), some (.ref l), kv] ∧ rs.length = i ∧ Grown H H' l rs (rowBy c d r)) ⟨[], none, rfl, rfl, Grown.start hl⟩ (fun i σ H1 hi p => ?_) (fun σ H1 p => ?_)
    · obtain ⟨rs, kv, rfl, hlen, G⟩ := p
      repeat walk_at "sx"
      refine ⟨.inl ⟨rfl, _, SqL.of G.top⟩, ?_⟩
      repeat walk_at "sx"
      refine ⟨_, rfl, by omega, by omega, ?_⟩
      have hrp : 0 < r := by omega
      refine comp_range (fun acc j ys H2 => ys = (List.range j).map (fun (j : Nat) => V.int (draw c (7 * (i : Int) + (j : Int)) r)) ∧ H2 = upd H1 acc (.lst ys)) (fun acc hacc => ⟨rfl, rfl⟩) (fun acc j ys H2 hacc hj p => ?_) (fun acc ys H2 hacc p => ?_)
      · obtain ⟨rfl, rfl⟩ := p
        repeat walk_at "sx"
        refine ⟨Wk.set rfl, ?_⟩
        repeat walk_at "sx"
        refine ⟨_, _, _, rfl, hrp, upd_same, small1000 (by simp; omega), ?_, ?_⟩
        · rw [map_range_snoc]; simp only [Int.zero_add]
        · rw [upd_upd]
      · obtain ⟨rfl, rfl⟩ := p
        repeat walk_at "sx"
        have hla : l ≠ acc := fun z => G.fresh hacc (by rw [z]; exact List.mem_cons_self)
        refine ⟨l, rs.map V.ref, _, rfl, rfl, (by rw [upd_ne hla]; exact G.top), small1000 (by simp; omega), ?_⟩
        refine ⟨rs ++ [acc], _, rfl, by simp [hlen], ?_⟩
        have := G.snoc hacc
        have e : (rowBy c d r rs.length).map V.int = (List.range d.toNat).map (fun (j : Nat) => V.int (draw c (7 * (i : Int) + (j : Int)) r)) := by
          unfold rowBy; rw [List.map_map, hlen]; rfl
        rw [e] at this
        exact this
    · obtain ⟨rs, kv, rfl, hlen, G⟩ := p
      repeat walk_at "sx"
      refine q l rs H1 G.same ?_ G.new
      have := G.mat
      rw [hlen] at this
      exact this
/-! #### l_lamps_by -/
theorem sc_l_lamps_by : FnScope ["cell", "rooms"] ["cell", "rooms"] (defScope s_l_lamps_by) := ⟨rfl, rfl, rfl, by decide +kernel, rfl, by decide +kernel, by decide +kernel⟩
theorem b_l_lamps_by (T : Txt K mg t) : Binds K t.fd_l_lamps_by ["cell", "rooms"] [] := T.F_l_lamps_by.binds fun _ _ _ _ _ _ us hl => by obtain ⟨_, _, rfl⟩ := len_2 hl; rfl
def sp_l_lamps_by : Sp := fun vs H Q _ => ∃ c r : Int, vs = [.int c, .int r] ∧ 0 ≤ r ∧ r ≤ 1000 ∧ ∀ (a : Addr), H a = none → Q (.ref a) (upd H a (.lst ((lampsBy c r).map V.bl)))
theorem ok_l_lamps_by (T : Txt K mg t) : FnOk P w K mg base CX0 2 t.f_l_lamps_by t.fd_l_lamps_by ["cell", "rooms"] (sp_l_lamps_by) := by
  refine T.F_l_lamps_by.ok sc_l_lamps_by (fun vs H Q E h => ?_) (fun cdv A outer s H vs Q E hr h => ?_)
  · obtain ⟨c, r, rfl, _⟩ := h
    rfl
  · obtain ⟨c, r, rfl, hr0, hr1, q⟩ := h
    refine ⟨_, pss_one (ps_ret (pe_comp (N := ["cell", "rooms"]) (sc0 := (defScope s_l_lamps_by)) (N' := ["k", "cell"]) (caps := [none, some 0]) (by exact ⟨rfl, by decide +kernel, by decide +kernel, by decide +kernel, rfl, rfl, by decide +kernel⟩) rfl (pi_range1 rfl T.m_range (pa_cons (pv 1) (pa_nil))) (fun _ _ _ _ _ _ => pg_name (i := 0) (show List.Nodup (["k", "cell"] : List Str) from by decide +kernel) rfl (Or.inl rfl)) (fun _ _ _ _ _ _ => pe_cmpR op_eq (pe_call (ok_l_draw T) (hr.mono (by decide)) rfl T.mg_l_draw T.F_l_draw.kp (b_l_draw T) .nil pass0 (pa_cons (pv 1) (pa_cons (pv 0) (pa_cons (pe_int) (pa_nil))))) (pe_int) (nomark _)))), ?_⟩
    repeat walk_at "sx"
    refine ⟨_, rfl, by omega, by omega, ?_⟩
    refine comp_range (fun acc j ys H2 => ys = (List.range j).map (fun (k : Nat) => V.bl (decide (draw c (k : Int) 2 = 1))) ∧ H2 = upd H acc (.lst ys)) (fun acc hacc => ⟨rfl, rfl⟩) (fun acc j ys H2 hacc hj p => ?_) (fun acc ys H2 hacc p => ?_)
    · obtain ⟨rfl, rfl⟩ := p
      repeat walk_at "sx"
      refine ⟨Wk.set rfl, ?_⟩
      repeat walk_at "sx"
      refine ⟨_, _, _, rfl, by decide, ?_⟩
      repeat walk_at "sx"
      refine r_eq rfl ⟨upd_same, small1000 (by simp; omega), ?_, ?_⟩
      · rw [map_range_snoc, dec_int]; simp only [Int.zero_add]; rfl
      · rw [upd_upd]
    · obtain ⟨rfl, rfl⟩ := p
      have := q acc hacc
      unfold lampsBy at this
      rw [List.map_map] at this
      exact this
/-! #### l_walk -/
theorem sc_l_walk : FnScope ["ways", "room", "word", "door"] ["ways", "room", "word"] (defScope s_l_walk) := ⟨rfl, rfl, rfl, by decide +kernel, rfl, by decide +kernel, by decide +kernel⟩
theorem b_l_walk (T : Txt K mg t) : Binds K t.fd_l_walk ["ways", "room", "word"] [] := T.F_l_walk.binds fun _ _ _ _ _ _ us hl => by obtain ⟨_, _, _, rfl⟩ := len_3 hl; rfl
def sp_l_walk (K : PySem.W.Frag) : Sp := fun vs H Q _ => ∃ (a : Addr) (rs : List Addr) (rss : List (List Int)) (d q : Int) (b : Addr) (ws : List Int), vs = [.ref a, .int q, .ref b] ∧ Mat H a rs rss ∧ Ways d rss ∧ SqL K H b (ws.map V.int) ∧ WordOk d ws ∧ 0 ≤ q ∧ q < rss.length ∧ Q (.int (walkI rss q ws)) H
theorem ok_l_walk (T : Txt K mg t) : FnOk P w K mg base CX0 1 t.f_l_walk t.fd_l_walk ["ways", "room", "word"] (sp_l_walk K) := by
  refine T.F_l_walk.ok sc_l_walk (fun vs H Q E h => ?_) (fun cdv A outer s H vs Q E hr h => ?_)
  · obtain ⟨a, rs, rss, d, q, b, ws, rfl, _⟩ := h
    rfl
  · obtain ⟨a, rs, rss, d, q, b, ws, rfl, M, W, hS, hw, h0, h1, k⟩ := h
    refine ⟨_, pss_cons (ps_for PassesOwn.never rfl (pi_listK K (pv 2)) (pg_name (i := 3) sc_l_walk.nd rfl (Or.inl rfl))
 (pss_one (ps_set (i := 1) sc_l_walk.nd rfl (Or.inl rfl) (pe_ix (ix_listK K) (pe_ix (ix_listK K) (pv 0) (pv 1) (fun _ _ => rfl)) (pv 3) (fun _ _ => rfl)))))
 (pss_one (ps_ret (pv 1))), ?_⟩
    repeat walk_at "sx"
    refine ⟨b, rfl, ⟨_, hS⟩, ?_⟩
    refine for_list (xs := ws.map V.int) (fun i σ H' => H' = H ∧ ∃ kv, σ = [some (.ref a), some (.int (walkI rss q (ws.take i))), some (.ref b), kv]) ⟨rfl, none, rfl⟩ (fun i σ H' _ p => by rw [p.1]; exact hS) (fun i x σ H' hx p => ?_) (fun σ H' p => ?_)
    · obtain ⟨rfl, kv, rfl⟩ := p
      have hx0 := int_map_inv hx
      clear hx
      obtain ⟨x, rfl, hx⟩ := hx0
      obtain ⟨x0, x1⟩ := hw x (List.mem_of_getElem? hx)
      obtain ⟨b0, b1⟩ := walkI_in W (hw.take i) h0 h1
      obtain ⟨row, e1, e2, _, _⟩ := step_in W b0 b1 x0 x1
      obtain ⟨r, e3, e4, e5⟩ := M.get e1
      repeat walk_at "sx"
      refine r_ixL (SqL.of M.top) (atI_get' b0 e4) ?_
      repeat walk_at "sx"
      refine r_ixL (SqL.of e5) (atI_get' x0 (int_map_get e2)) ?_
      repeat walk_at "sx"
      refine ⟨rfl, some (.int x), ?_⟩
      rw [take_snoc hx, walkI_snoc]
      rfl
    · obtain ⟨rfl, kv, rfl⟩ := p
      repeat walk_at "sx"
      rw [List.length_map, List.take_length]
      exact k
/-! #### l_whole -/
theorem sc_l_whole : FnScope ["found"] ["found"] (defScope s_l_whole) := ⟨rfl, rfl, rfl, by decide +kernel, rfl, by decide +kernel, by decide +kernel⟩
theorem b_l_whole (T : Txt K mg t) : Binds K t.fd_l_whole ["found"] [] := T.F_l_whole.binds fun _ _ _ _ _ _ us hl => by obtain ⟨_, rfl⟩ := len_1 hl; rfl
def sp_l_whole : Sp := fun vs H Q _ => ∃ i : Int, vs = [.int i] ∧ Q (.bl true) H
theorem ok_l_whole (T : Txt K mg t) : FnOk P w K mg base CX0 1 t.f_l_whole t.fd_l_whole ["found"] (sp_l_whole) := by
  refine T.F_l_whole.ok sc_l_whole (fun vs H Q E h => ?_) (fun cdv A outer s H vs Q E hr h => ?_)
  · obtain ⟨i, rfl, _⟩ := h
    rfl
  · obtain ⟨i, rfl, q⟩ := h
    refine ⟨_, pss_one (ps_ret (pe_and (pe_callB (call_isinstK K) rfl T.m_isinstance boot_isinstance (pa_cons (pv 0) (pa_cons (pe_bltn (v := .ty "int") rfl T.m_int boot_int rfl) (pa_nil)))) (pe_one (pe_not (pe_callB (call_isinstK K) rfl T.m_isinstance boot_isinstance (pa_cons (pv 0) (pa_cons (pe_bltn (v := .ty "bool") rfl T.m_bool boot_bool rfl) (pa_nil)))))))), ?_⟩
    repeat walk_at "sx"
    refine ⟨_, _, _, _, true, rfl, .int i, rfl, rfl, ?_⟩
    repeat walk_at "sx"
    refine r_iteP rfl ?_
    repeat walk_at "sx"
    refine ⟨_, _, _, _, false, rfl, .int i, rfl, ki_ib K, ?_⟩
    repeat walk_at "sx"
    exact q
/-! #### l_numbers -/
theorem sc_l_numbers : FnScope ["found", "due", "part"] ["found", "due"] (defScope s_l_numbers) := ⟨rfl, rfl, rfl, by decide +kernel, rfl, by decide +kernel, by decide +kernel⟩
theorem b_l_numbers (T : Txt K mg t) : Binds K t.fd_l_numbers ["found", "due"] [] := T.F_l_numbers.binds fun _ _ _ _ _ _ us hl => by obtain ⟨_, _, rfl⟩ := len_2 hl; rfl
def sp_l_numbers (K : PySem.W.Frag) : Sp := fun vs H Q _ => ∃ (a b : Addr) (ns ms : List Int), vs = [.ref a, .ref b] ∧ H a = some (.lst (ns.map V.int)) ∧ SqL K H b (ms.map V.int) ∧ Q (.bl (decide (ns = ms))) H
theorem ok_l_numbers (T : Txt K mg t) : FnOk P w K mg base CX0 2 t.f_l_numbers t.fd_l_numbers ["found", "due"] (sp_l_numbers K) := by
  refine T.F_l_numbers.ok sc_l_numbers (fun vs H Q E h => ?_) (fun cdv A outer s H vs Q E hr h => ?_)
  · obtain ⟨a, b, ns, ms, rfl, _⟩ := h
    rfl
  · obtain ⟨a, b, ns, ms, rfl, ha, hb, q⟩ := h
    refine ⟨_, pss_cons (ps_if (PW.pt (pw_or (pt_not (pt_val (pe_callB (call_isinstK K) rfl T.m_isinstance boot_isinstance (pa_cons (pv 0) (pa_cons (pe_bltn (v := .ty "list") rfl T.m_list boot_list rfl) (pa_nil)))))) (pw_or1 (pt_cmpR op_ne (pe_callB (call_len_seqK K) rfl T.m_len PySem.boot_len (pa_cons (pv 0) (pa_nil))) (pe_callB (call_len_seqK K) rfl T.m_len PySem.boot_len (pa_cons (pv 1) (pa_nil))) (nomark _)))))
 (pss_one (ps_ret (pe_bl)))
 (pss_nil))
 (pss_cons (ps_for PassesOwn.never rfl (pi_listK K (pv 0)) (pg_name (i := 2) sc_l_numbers.nd rfl (Or.inl rfl))
 (pss_one (ps_if (pt_not (pt_val (pe_call (ok_l_whole T) (hr.mono (by decide)) rfl T.mg_l_whole T.F_l_whole.kp (b_l_whole T) .nil pass0 (pa_cons (pv 2) (pa_nil)))))
 (pss_one (ps_ret (pe_bl)))
 (pss_nil))))
 (pss_one (ps_ret (pe_cmpR (op_eqIK K hr.units) (pv 0) (pv 1) (nomark _))))), ?_⟩
    repeat walk_at "sx"
    refine ⟨_, _, _, _, true, rfl, .lst ha, rfl, rfl, ?_⟩
    repeat walk_at "sx"
    refine r_iteN rfl ?_
    repeat walk_at "sx"
    refine ⟨a, _, rfl, .inl (SqL.of ha), ?_⟩
    repeat walk_at "sx"
    refine ⟨b, _, rfl, .inl hb, ?_⟩
    refine r_ne rfl ?_
    repeat walk_at "sx"
    rw [dec_int, List.length_map, List.length_map]
    refine r_ite (fun hc => ?_) (fun hc => ?_)
    · have hne : ¬ ns = ms := fun z => by subst z; simp at hc
      repeat walk_at "sx"
      rw [decide_eq_false hne] at q
      exact q
    · repeat walk_at "sx"
      refine ⟨a, rfl, ⟨_, SqL.of ha⟩, ?_⟩
      refine for_list (xs := ns.map V.int) (fun i σ H' => H' = H ∧ ∃ kv, σ = [some (.ref a), some (.ref b), kv]) ⟨rfl, none, rfl⟩ (fun i σ H' _ p => by rw [p.1]; exact SqL.of ha) (fun i x σ H' hx p => ?_) (fun σ H' p => ?_)
      · obtain ⟨rfl, kv, rfl⟩ := p
        have hx0 := int_map_inv hx
        clear hx
        obtain ⟨x, rfl, hx⟩ := hx0
        repeat walk_at "sx"
        refine ⟨x, rfl, ?_⟩
        repeat walk_at "sx"
        refine r_iteN rfl ?_
        repeat walk_at "sx"
        exact ⟨rfl, _, rfl⟩
      · obtain ⟨rfl, kv, rfl⟩ := p
        repeat walk_at "sx"
        exact ⟨a, b, ns, ms, rfl, rfl, SqL.of ha, hb, q⟩
/-! #### l_is_word -/
theorem sc_l_is_word : FnScope ["found", "doors", "part"] ["found", "doors"] (defScope s_l_is_word) := ⟨rfl, rfl, rfl, by decide +kernel, rfl, by decide +kernel, by decide +kernel⟩
theorem b_l_is_word (T : Txt K mg t) : Binds K t.fd_l_is_word ["found", "doors"] [] := T.F_l_is_word.binds fun _ _ _ _ _ _ us hl => by obtain ⟨_, _, rfl⟩ := len_2 hl; rfl
def sp_l_is_word (K : PySem.W.Frag) : Sp := fun vs H Q _ => ∃ (a : Addr) (ns : List Int) (d : Int), vs = [.ref a, .int d] ∧ H a = some (.lst (ns.map V.int)) ∧ WordOk d ns ∧ Q (.bl true) H
theorem ok_l_is_word (T : Txt K mg t) : FnOk P w K mg base CX0 2 t.f_l_is_word t.fd_l_is_word ["found", "doors"] (sp_l_is_word K) := by
  refine T.F_l_is_word.ok sc_l_is_word (fun vs H Q E h => ?_) (fun cdv A outer s H vs Q E hr h => ?_)
  · obtain ⟨a, ns, d, rfl, _⟩ := h
    rfl
  · obtain ⟨a, ns, d, rfl, ha, ok, q⟩ := h
    refine ⟨_, pss_cons (ps_if (pt_not (pt_val (pe_callB (call_isinstK K) rfl T.m_isinstance boot_isinstance (pa_cons (pv 0) (pa_cons (pe_bltn (v := .ty "list") rfl T.m_list boot_list rfl) (pa_nil))))))
 (pss_one (ps_ret (pe_bl)))
 (pss_nil))
 (pss_cons (ps_for PassesOwn.never rfl (pi_listK K (pv 0)) (pg_name (i := 2) sc_l_is_word.nd rfl (Or.inl rfl))
 (pss_one (ps_if (PW.pt (pw_or (pt_not (pt_val (pe_call (ok_l_whole T) (hr.mono (by decide)) rfl T.mg_l_whole T.F_l_whole.kp (b_l_whole T) .nil pass0 (pa_cons (pv 2) (pa_nil))))) (pw_or1 (pt_not (pt_chain op_le op_lt (pe_int) (pv 2) (pv 1))))))
 (pss_one (ps_ret (pe_bl)))
 (pss_nil))))
 (pss_one (ps_ret (pe_bl)))), ?_⟩
    repeat walk_at "sx"
    refine ⟨_, _, _, _, true, rfl, .lst ha, rfl, rfl, ?_⟩
    repeat walk_at "sx"
    refine r_iteN rfl ?_
    repeat walk_at "sx"
    refine ⟨a, rfl, ⟨_, SqL.of ha⟩, ?_⟩
    refine for_list (xs := ns.map V.int) (fun i σ H' => H' = H ∧ ∃ kv, σ = [some (.ref a), some (.int d), kv]) ⟨rfl, none, rfl⟩ (fun i σ H' _ p => by rw [p.1]; exact SqL.of ha) (fun i x σ H' hx p => ?_) (fun σ H' p => ?_)
    · obtain ⟨rfl, kv, rfl⟩ := p
      have hx0 := int_map_inv hx
      clear hx
      obtain ⟨x, rfl, hx⟩ := hx0
      obtain ⟨x0, x1⟩ := ok x (List.mem_of_getElem? hx)
      repeat walk_at "sx"
      refine ⟨x, rfl, ?_⟩
      repeat walk_at "sx"
      refine r_iteN rfl ?_
      repeat walk_at "sx"
      refine r_iteP (decide_eq_true x0) ?_
      repeat walk_at "sx"
      refine r_iteN (by simp [x1]) ?_
      repeat walk_at "sx"
      exact ⟨rfl, _, rfl⟩
    · obtain ⟨rfl, kv, rfl⟩ := p
      repeat walk_at "sx"
      exact q
/-! #### l_truths -/
theorem sc_l_truths : FnScope ["found", "due", "part"] ["found", "due"] (defScope s_l_truths) := ⟨rfl, rfl, rfl, by decide +kernel, rfl, by decide +kernel, by decide +kernel⟩
theorem b_l_truths (T : Txt K mg t) : Binds K t.fd_l_truths ["found", "due"] [] := T.F_l_truths.binds fun _ _ _ _ _ _ us hl => by obtain ⟨_, _, rfl⟩ := len_2 hl; rfl
def sp_l_truths (K : PySem.W.Frag) : Sp := fun vs H Q _ => ∃ (a b : Addr) (ns : List Bool), vs = [.ref a, .ref b] ∧ H a = some (.lst (ns.map V.bl)) ∧ SqL K H b (ns.map V.bl) ∧ Q (.bl true) H
theorem ok_l_truths (T : Txt K mg t) : FnOk P w K mg base CX0 1 t.f_l_truths t.fd_l_truths ["found", "due"] (sp_l_truths K) := by
  refine T.F_l_truths.ok sc_l_truths (fun vs H Q E h => ?_) (fun cdv A outer s H vs Q E hr h => ?_)
  · obtain ⟨a, b, ns, rfl, _⟩ := h
    rfl
  · obtain ⟨a, b, ns, rfl, ha, hb, q⟩ := h
    refine ⟨_, pss_cons (ps_if (PW.pt (pw_or (pt_not (pt_val (pe_callB (call_isinstK K) rfl T.m_isinstance boot_isinstance (pa_cons (pv 0) (pa_cons (pe_bltn (v := .ty "list") rfl T.m_list boot_list rfl) (pa_nil)))))) (pw_or1 (pt_cmpR op_ne (pe_callB (call_len_seqK K) rfl T.m_len PySem.boot_len (pa_cons (pv 0) (pa_nil))) (pe_callB (call_len_seqK K) rfl T.m_len PySem.boot_len (pa_cons (pv 1) (pa_nil))) (nomark _)))))
 (pss_one (ps_ret (pe_bl)))
 (pss_nil))
 (pss_cons (ps_for PassesOwn.never rfl (pi_listK K (pv 0)) (pg_name (i := 2) sc_l_truths.nd rfl (Or.inl rfl))
 (pss_one (ps_if (pt_not (pt_val (pe_callB (call_isinstK K) rfl T.m_isinstance boot_isinstance (pa_cons (pv 2) (pa_cons (pe_bltn (v := .ty "bool") rfl T.m_bool boot_bool rfl) (pa_nil))))))
 (pss_one (ps_ret (pe_bl)))
 (pss_nil))))
 (pss_one (ps_ret (pe_cmpR (op_eqDK K hr.units) (pv 0) (pv 1) (nomark _))))), ?_⟩
    repeat walk_at "sx"
    refine ⟨_, _, _, _, true, rfl, .lst ha, rfl, rfl, ?_⟩
    repeat walk_at "sx"
    refine r_iteN rfl ?_
    repeat walk_at "sx"
    refine ⟨a, _, rfl, .inl (SqL.of ha), ?_⟩
    repeat walk_at "sx"
    refine ⟨b, _, rfl, .inl hb, ?_⟩
    refine r_ne rfl ?_
    repeat walk_at "sx"
    refine r_iteN (by simp) ?_
    repeat walk_at "sx"
    refine ⟨a, rfl, ⟨_, SqL.of ha⟩, ?_⟩
    refine for_list (xs := ns.map V.bl) (fun i σ H' => H' = H ∧ ∃ kv, σ = [some (.ref a), some (.ref b), kv]) ⟨rfl, none, rfl⟩ (fun i σ H' _ p => by rw [p.1]; exact SqL.of ha) (fun i x σ H' hx p => ?_) (fun σ H' p => ?_)
    · obtain ⟨rfl, kv, rfl⟩ := p
      have hx0 := bl_map_inv hx
      clear hx
      obtain ⟨x, rfl, hx⟩ := hx0
      repeat walk_at "sx"
      refine ⟨_, _, _, _, true, rfl, .bl x, rfl, rfl, ?_⟩
      repeat walk_at "sx"
      refine r_iteN rfl ?_
      repeat walk_at "sx"
      exact ⟨rfl, _, rfl⟩
    · obtain ⟨rfl, kv, rfl⟩ := p
      repeat walk_at "sx"
      refine ⟨_, _, .lst (SqL.of ha) (dts_bl K _ ns), .lst hb (dts_bl K _ ns), shaped_bl ns, shaped_bl ns, ?_⟩
      have e : PyData.eqv (.list (ns.map PyData.bool)) (.list (ns.map PyData.bool)) = true := by simp [PyData.eqv, eqv_bl]
      rw [e]
      exact q
/-! #### l_house_is -/
theorem sc_l_house_is : FnScope ["found", "doors", "ways", "lamps", "k"] ["found", "doors", "ways", "lamps"] (defScope s_l_house_is) := ⟨rfl, rfl, rfl, by decide +kernel, rfl, by decide +kernel, by decide +kernel⟩
theorem b_l_house_is (T : Txt K mg t) : Binds K t.fd_l_house_is ["found", "doors", "ways", "lamps"] [] := T.F_l_house_is.binds fun _ _ _ _ _ _ us hl => by obtain ⟨_, _, _, _, rfl⟩ := len_4 hl; rfl
def sp_l_house_is (K : PySem.W.Frag) (C : Addr) : Sp := fun vs H Q _ => ∃ (p : Addr) (d : Int) (aw : Addr) (rs : List Addr) (rss : List (List Int)) (al : Addr) (ls : List Bool) (a2 : Addr) (rs2 : List Addr) (l2 : Addr), vs = [.ref p, .int d, .ref a2, .ref l2] ∧ HouseAt C H p d aw rs rss al ls ∧ Mat H a2 rs2 rss ∧ SqL K H l2 (ls.map V.bl) ∧ rss.length ≤ 1000 ∧ Q (.bl true) H
theorem ok_l_house_is (T : Txt K mg t) : FnOk P w K mg base CX0 3 t.f_l_house_is t.fd_l_house_is ["found", "doors", "ways", "lamps"] (sp_l_house_is K t.C_House) := by
  refine T.F_l_house_is.ok sc_l_house_is (fun vs H Q E h => ?_) (fun cdv A outer s H vs Q E hr h => ?_)
  · obtain ⟨p, d, aw, rs, rss, al, ls, a2, rs2, l2, rfl, _⟩ := h
    rfl
  · obtain ⟨p, d, aw, rs, rss, al, ls, a2, rs2, l2, rfl, hh, M2, hL2, hlen, q⟩ := h
    obtain ⟨dx, ho⟩ := hh.ob
    have e1 : (rs.map V.ref).length = rss.length := by rw [List.length_map, hh.ways.len]
    have e2 : (rs2.map V.ref).length = rss.length := by rw [List.length_map, M2.len]
    refine ⟨_, pss_cons (ps_if (PW.pt (pw_or (pt_not (pt_val (pe_callB (call_isinstK K) rfl T.m_isinstance boot_isinstance (pa_cons (pv 0) (pa_cons (pe_glob (v := .ref _) rfl T.mg_House rfl) (pa_nil)))))) (pw_or (pt_not (pt_val (pe_call (ok_l_whole T) (hr.mono (by decide)) rfl T.mg_l_whole T.F_l_whole.kp (b_l_whole T) .nil pass0 (pa_cons (pe_fldK K (pv 0) rfl) (pa_nil))))) (pw_or1 (pt_cmpR op_ne (pe_fldK K (pv 0) rfl) (pv 1) (nomark _))))))
 (pss_one (ps_ret (pe_bl)))
 (pss_nil))
 (pss_cons (ps_if (PW.pt (pw_or (pt_not (pt_val (pe_callB (call_isinstK K) rfl T.m_isinstance boot_isinstance (pa_cons (pe_fldK K (pv 0) rfl) (pa_cons (pe_bltn (v := .ty "list") rfl T.m_list boot_list rfl) (pa_nil)))))) (pw_or1 (pt_cmpR op_ne (pe_callB (call_len_seqK K) rfl T.m_len PySem.boot_len (pa_cons (pe_fldK K (pv 0) rfl) (pa_nil))) (pe_callB (call_len_seqK K) rfl T.m_len PySem.boot_len (pa_cons (pv 2) (pa_nil))) (nomark _)))))
 (pss_one (ps_ret (pe_bl)))
 (pss_nil))
 (pss_cons (ps_for PassesOwn.never rfl (pi_range1 rfl T.m_range (pa_cons (pe_callB (call_len_seqK K) rfl T.m_len PySem.boot_len (pa_cons (pv 2) (pa_nil))) (pa_nil))) (pg_name (i := 4) sc_l_house_is.nd rfl (Or.inl rfl))
 (pss_one (ps_if (pt_not (pt_val (pe_call (ok_l_numbers T) (hr.mono (by decide)) rfl T.mg_l_numbers T.F_l_numbers.kp (b_l_numbers T) .nil pass0 (pa_cons (pe_ix (ix_listK K) (pe_fldK K (pv 0) rfl) (pv 4) (fun _ _ => rfl)) (pa_cons (pe_ix (ix_listK K) (pv 2) (pv 4) (fun _ _ => rfl)) (pa_nil))))))
 (pss_one (ps_ret (pe_bl)))
 (pss_nil))))
 (pss_one (ps_ret (pe_call (ok_l_truths T) (hr.mono (by decide)) rfl T.mg_l_truths T.F_l_truths.kp (b_l_truths T) .nil pass0 (pa_cons (pe_fldK K (pv 0) rfl) (pa_cons (pv 3) (pa_nil)))))))), ?_⟩
    repeat walk_at "sx"
    refine ⟨_, _, _, _, true, rfl, .ins ho T.cl_House T.tc_House T.tg T.tt T.tm_House, rfl, ?_, ?_⟩
    · unfold PySem.W.kitOne; rw [if_pos (beq_self_eq_true _)]
    repeat walk_at "sx"
    refine r_iteN rfl ?_
    repeat walk_at "sx"
    refine ⟨_, rfl, p, _, dx, _, _, rfl, ho, T.cl_House, T.na_House_doors, hfs_doors _ _ _, ?_⟩
    repeat walk_at "sx"
    refine ⟨d, rfl, ?_⟩
    repeat walk_at "sx"
    refine r_iteN rfl ?_
    repeat walk_at "sx"
    refine ⟨_, rfl, p, _, dx, _, _, rfl, ho, T.cl_House, T.na_House_doors, hfs_doors _ _ _, ?_⟩
    repeat walk_at "sx"
    refine r_ne rfl ?_
    repeat walk_at "sx"
    refine r_iteN (by simp) ?_
    repeat walk_at "sx"
    refine ⟨_, rfl, p, _, dx, _, _, rfl, ho, T.cl_House, T.na_House_ways, hfs_ways _ _ _, ?_⟩
    repeat walk_at "sx"
    refine ⟨_, _, _, _, true, rfl, .lst hh.ways.top, rfl, rfl, ?_⟩
    repeat walk_at "sx"
    refine r_iteN rfl ?_
    repeat walk_at "sx"
    refine ⟨_, rfl, p, _, dx, _, _, rfl, ho, T.cl_House, T.na_House_ways, hfs_ways _ _ _, ?_⟩
    repeat walk_at "sx"
    refine ⟨aw, _, rfl, .inl (SqL.of hh.ways.top), ?_⟩
    repeat walk_at "sx"
    refine ⟨a2, _, rfl, .inl (SqL.of M2.top), ?_⟩
    refine r_ne rfl ?_
    repeat walk_at "sx"
    refine r_iteN (by rw [e1, e2]; simp) ?_
    repeat walk_at "sx"
    refine ⟨a2, _, rfl, .inl (SqL.of M2.top), ?_⟩
    rw [e2]
    repeat walk_at "sx"
    refine ⟨_, rfl, by omega, by omega, ?_⟩
    refine for_range (fun i σ H' => H' = H ∧ ∃ kv, σ = [some (.ref p), some (.int d), some (.ref a2), some (.ref l2), kv]) ⟨rfl, none, rfl⟩ (fun i σ H' hi pp => ?_) (fun σ H' pp => ?_)
    · obtain ⟨rfl, kv, rfl⟩ := pp
      have hi' : i < rss.length := by omega
      have eg := List.getElem?_eq_getElem hi'
      obtain ⟨r1, _, x1, y1⟩ := hh.ways.get eg
      obtain ⟨r2, _, x2, y2⟩ := M2.get eg
      repeat walk_at "sx"
      refine ⟨_, rfl, p, _, dx, _, _, rfl, ho, T.cl_House, T.na_House_ways, hfs_ways _ _ _, ?_⟩
      repeat walk_at "sx"
      refine r_ixL (SqL.of hh.ways.top) (atI_get' (by omega) (by rw [show ((0 : Int) + (i : Int)).toNat = i by omega]; exact x1)) ?_
      repeat walk_at "sx"
      refine r_ixL (SqL.of M2.top) (atI_get' (by omega) (by rw [show ((0 : Int) + (i : Int)).toNat = i by omega]; exact x2)) ?_
      repeat walk_at "sx"
      refine ⟨r1, r2, _, _, rfl, y1, SqL.of y2, ?_⟩
      repeat walk_at "sx"
      refine r_iteN (by simp) ?_
      repeat walk_at "sx"
      exact ⟨rfl, _, rfl⟩
    · obtain ⟨rfl, kv, rfl⟩ := pp
      repeat walk_at "sx"
      refine ⟨_, rfl, p, _, dx, _, _, rfl, ho, T.cl_House, T.na_House_lamps, hfs_lamps _ _ _, ?_⟩
      repeat walk_at "sx"
      exact ⟨al, l2, ls, rfl, hh.lamps, hL2, q⟩
/-! #### l_sound -/
theorem sc_l_sound : FnScope ["found", "doors", "row"] ["found", "doors"] (defScope s_l_sound) := ⟨rfl, rfl, rfl, by decide +kernel, rfl, by decide +kernel, by decide +kernel⟩
theorem b_l_sound (T : Txt K mg t) : Binds K t.fd_l_sound ["found", "doors"] [] := T.F_l_sound.binds fun _ _ _ _ _ _ us hl => by obtain ⟨_, _, rfl⟩ := len_2 hl; rfl
def sp_l_sound (K : PySem.W.Frag) (C : Addr) : Sp := fun vs H Q _ => ∃ (p : Addr) (d : Int) (aw : Addr) (rs : List Addr) (rss : List (List Int)) (al : Addr) (ls : List Bool), vs = [.ref p, .int d] ∧ HouseAt C H p d aw rs rss al ls ∧ Valid d rss ls ∧ ∀ H', Same H H' → Q (.bl true) H'
theorem ok_l_sound (T : Txt K mg t) : FnOk P w K mg base CX0 3 t.f_l_sound t.fd_l_sound ["found", "doors"] (sp_l_sound K t.C_House) := by
  refine T.F_l_sound.ok sc_l_sound (fun vs H Q E h => ?_) (fun cdv A outer s H vs Q E hr h => ?_)
  · obtain ⟨p, d, aw, rs, rss, al, ls, rfl, _⟩ := h
    rfl
  · obtain ⟨p, d, aw, rs, rss, al, ls, rfl, hh, Vd, q⟩ := h
    obtain ⟨dx, ho⟩ := hh.ob
    have e1 : (rs.map V.ref).length = rss.length := by rw [List.length_map, hh.ways.len]
    have hr1 := Vd.r1
    have hll := Vd.ll
    refine ⟨_, pss_cons (ps_if (PW.pt (pw_or (pt_not (pt_val (pe_callB (call_isinstK K) rfl T.m_isinstance boot_isinstance (pa_cons (pv 0) (pa_cons (pe_glob (v := .ref _) rfl T.mg_House rfl) (pa_nil)))))) (pw_or (pt_not (pt_val (pe_call (ok_l_whole T) (hr.mono (by decide)) rfl T.mg_l_whole T.F_l_whole.kp (b_l_whole T) .nil pass0 (pa_cons (pe_fldK K (pv 0) rfl) (pa_nil))))) (pw_or1 (pt_cmpR op_ne (pe_fldK K (pv 0) rfl) (pv 1) (nomark _))))))
 (pss_one (ps_ret (pe_bl)))
 (pss_nil))
 (pss_cons (ps_if (PW.pt (pw_or (pt_not (pt_val (pe_callB (call_isinstK K) rfl T.m_isinstance boot_isinstance (pa_cons (pe_fldK K (pv 0) rfl) (pa_cons (pe_bltn (v := .ty "list") rfl T.m_list boot_list rfl) (pa_nil)))))) (pw_or1 (pt_not (pt_val (pe_callB (call_isinstK K) rfl T.m_isinstance boot_isinstance (pa_cons (pe_fldK K (pv 0) rfl) (pa_cons (pe_bltn (v := .ty "list") rfl T.m_list boot_list rfl) (pa_nil)))))))))
 (pss_one (ps_ret (pe_bl)))
 (pss_nil))
 (pss_cons (ps_if (PW.pt (pw_or (pt_cmpR op_eq (pe_callB (call_len_seqK K) rfl T.m_len PySem.boot_len (pa_cons (pe_fldK K (pv 0) rfl) (pa_nil))) (pe_int) (nomark _)) (pw_or1 (pt_cmpR op_ne (pe_callB (call_len_seqK K) rfl T.m_len PySem.boot_len (pa_cons (pe_fldK K (pv 0) rfl) (pa_nil))) (pe_callB (call_len_seqK K) rfl T.m_len PySem.boot_len (pa_cons (pe_fldK K (pv 0) rfl) (pa_nil))) (nomark _)))))
 (pss_one (ps_ret (pe_bl)))
 (pss_nil))
 (pss_cons (ps_for PassesOwn.never rfl (pi_listK K (pe_fldK K (pv 0) rfl)) (pg_name (i := 2) sc_l_sound.nd rfl (Or.inl rfl))
 (pss_one (ps_if (PW.pt (pw_or (pt_not (pt_val (pe_call (ok_l_is_word T) (hr.mono (by decide)) rfl T.mg_l_is_word T.F_l_is_word.kp (b_l_is_word T) .nil pass0 (pa_cons (pv 2) (pa_cons (pe_callB (call_len_seqK K) rfl T.m_len PySem.boot_len (pa_cons (pe_fldK K (pv 0) rfl) (pa_nil))) (pa_nil)))))) (pw_or1 (pt_cmpR op_ne (pe_callB (call_len_seqK K) rfl T.m_len PySem.boot_len (pa_cons (pv 2) (pa_nil))) (pv 1) (nomark _)))))
 (pss_one (ps_ret (pe_bl)))
 (pss_nil))))
 (pss_one (ps_ret (pe_call (ok_l_truths T) (hr.mono (by decide)) rfl T.mg_l_truths T.F_l_truths.kp (b_l_truths T) .nil pass0 (pa_cons (pe_fldK K (pv 0) rfl) (pa_cons (pe_callTy (call_list_ofK K) rfl T.m_list boot_list (pa_cons (pe_fldK K (pv 0) rfl) (pa_nil))) (pa_nil))))))))), ?_⟩
    repeat walk_at "sx"
    refine ⟨_, _, _, _, true, rfl, .ins ho T.cl_House T.tc_House T.tg T.tt T.tm_House, rfl, ?_, ?_⟩
    · unfold PySem.W.kitOne; rw [if_pos (beq_self_eq_true _)]
    repeat walk_at "sx"
    refine r_iteN rfl ?_
    repeat walk_at "sx"
    refine ⟨_, rfl, p, _, dx, _, _, rfl, ho, T.cl_House, T.na_House_doors, hfs_doors _ _ _, ?_⟩
    repeat walk_at "sx"
    refine ⟨d, rfl, ?_⟩
    repeat walk_at "sx"
    refine r_iteN rfl ?_
    repeat walk_at "sx"
    refine ⟨_, rfl, p, _, dx, _, _, rfl, ho, T.cl_House, T.na_House_doors, hfs_doors _ _ _, ?_⟩
    repeat walk_at "sx"
    refine r_ne rfl ?_
    repeat walk_at "sx"
    refine r_iteN (by simp) ?_
    repeat walk_at "sx"
    refine ⟨_, rfl, p, _, dx, _, _, rfl, ho, T.cl_House, T.na_House_ways, hfs_ways _ _ _, ?_⟩
    repeat walk_at "sx"
    refine ⟨_, _, _, _, true, rfl, .lst hh.ways.top, rfl, rfl, ?_⟩
    repeat walk_at "sx"
    refine r_iteN rfl ?_
    repeat walk_at "sx"
    refine ⟨_, rfl, p, _, dx, _, _, rfl, ho, T.cl_House, T.na_House_lamps, hfs_lamps _ _ _, ?_⟩
    repeat walk_at "sx"
    refine ⟨_, _, _, _, true, rfl, .lst hh.lamps, rfl, rfl, ?_⟩
    repeat walk_at "sx"
    refine r_iteN rfl ?_
    repeat walk_at "sx"
    refine ⟨_, rfl, p, _, dx, _, _, rfl, ho, T.cl_House, T.na_House_ways, hfs_ways _ _ _, ?_⟩
    repeat walk_at "sx"
    refine ⟨aw, _, rfl, .inl (SqL.of hh.ways.top), ?_⟩
    rw [e1]
    repeat walk_at "sx"
    refine r_eq rfl ?_
    repeat walk_at "sx"
    refine r_iteN (by rw [dec_int]; exact decide_eq_false (by omega)) ?_
    repeat walk_at "sx"
    refine ⟨_, rfl, p, _, dx, _, _, rfl, ho, T.cl_House, T.na_House_lamps, hfs_lamps _ _ _, ?_⟩
    repeat walk_at "sx"
    refine ⟨al, _, rfl, .inl (SqL.of hh.lamps), ?_⟩
    repeat walk_at "sx"
    refine ⟨_, rfl, p, _, dx, _, _, rfl, ho, T.cl_House, T.na_House_ways, hfs_ways _ _ _, ?_⟩
    repeat walk_at "sx"
    refine ⟨aw, _, rfl, .inl (SqL.of hh.ways.top), ?_⟩
    rw [e1, List.length_map, hll]
    refine r_ne rfl ?_
    repeat walk_at "sx"
    refine r_iteN (by simp) ?_
    repeat walk_at "sx"
    refine ⟨_, rfl, p, _, dx, _, _, rfl, ho, T.cl_House, T.na_House_ways, hfs_ways _ _ _, ?_⟩
    refine ⟨aw, rfl, ⟨_, SqL.of hh.ways.top⟩, ?_⟩
    refine for_list (xs := rs.map V.ref) (fun i σ H' => H = H' ∧ ∃ kv, σ = [some (.ref p), some (.int d), kv]) ⟨rfl, none, rfl⟩ (fun i σ H' _ pp => by rw [← pp.1]; exact SqL.of hh.ways.top) (fun i x σ H' hx pp => ?_) (fun σ H' pp => ?_)
    · obtain ⟨rfl, kv, rfl⟩ := pp
      have hx0 := ref_map_inv hx
      clear hx
      obtain ⟨r, rfl, hr'⟩ := hx0
      have hi : i < rss.length := by rw [← hh.ways.len]; exact (List.getElem?_eq_some_iff.mp hr').1
      have hrow := hh.ways.row i r _ hr' (List.getElem?_eq_getElem hi)
      obtain ⟨h1, h2⟩ := Vd.row _ (List.getElem_mem hi)
      repeat walk_at "sx"
      refine ⟨_, rfl, p, _, dx, _, _, rfl, ho, T.cl_House, T.na_House_ways, hfs_ways _ _ _, ?_⟩
      repeat walk_at "sx"
      refine ⟨aw, _, rfl, .inl (SqL.of hh.ways.top), ?_⟩
      rw [e1]
      repeat walk_at "sx"
      refine ⟨r, _, _, rfl, hrow, h2, ?_⟩
      repeat walk_at "sx"
      refine r_iteN rfl ?_
      repeat walk_at "sx"
      refine ⟨r, _, rfl, .inl (SqL.of hrow), ?_⟩
      repeat walk_at "sx"
      refine r_ne rfl ?_
      repeat walk_at "sx"
      refine r_iteN (by rw [List.length_map, h1]; simp) ?_
      repeat walk_at "sx"
      exact ⟨rfl, _, rfl⟩
    · obtain ⟨rfl, kv, rfl⟩ := pp
      repeat walk_at "sx"
      refine ⟨_, rfl, p, _, dx, _, _, rfl, ho, T.cl_House, T.na_House_lamps, hfs_lamps _ _ _, ?_⟩
      repeat walk_at "sx"
      refine ⟨_, rfl, p, _, dx, _, _, rfl, ho, T.cl_House, T.na_House_lamps, hfs_lamps _ _ _, ?_⟩
      refine ⟨al, _, rfl, .inl (SqL.of hh.lamps), fun l2 hl2 => ?_⟩
      have s2 : Same H (upd H l2 (.lst (ls.map V.bl))) := Same.upd_new hl2
      have l22 : (upd H l2 (.lst (ls.map V.bl))) l2 = some (.lst (ls.map V.bl)) := upd_same
      generalize upd H l2 (.lst (ls.map V.bl)) = H2 at s2 l22 ⊢
      repeat walk_at "sx"
      exact ⟨al, l2, ls, rfl, s2 _ _ hh.lamps, SqL.of l22, q _ s2⟩
/-! #### l_part -/
theorem sc_l_part : FnScope ["ways", "lamps", "left", "others", "lights", "right", "rows", "met", "k", "door", "to", "go"] ["ways", "lamps", "left", "others", "lights", "right"] (defScope s_l_part) := ⟨rfl, rfl, rfl, by decide +kernel, rfl, by decide +kernel, by decide +kernel⟩
theorem b_l_part (T : Txt K mg t) : Binds K t.fd_l_part ["ways", "lamps", "left", "others", "lights", "right"] [] := T.F_l_part.binds fun _ _ _ _ _ _ us hl => by obtain ⟨_, _, _, _, _, _, rfl⟩ := len_6 hl; rfl
abbrev PK := Int × Int
def stP (rss rss2 : List (List Int)) : PK → Int → PK := fun p x => (step rss p.1 x, step rss2 p.2 x)
theorem walkP (rss rss2 : List (List Int)) (a b : Int) (w : List Int) : walkG (stP rss rss2) (a, b) w = (walkI rss a w, walkI rss2 b w) := by
  unfold walkG walkI
  induction w generalizing a b with
  | nil => rfl
  | cons x w ih => exact ih (step rss a x) (step rss2 b x)
def sp_l_part (K : PySem.W.Frag) : Sp := fun vs H Q _ => ∃ (aw : Addr) (rs : List Addr) (rss : List (List Int)) (al : Addr) (ls : List Bool) (a : Int) (ao : Addr) (rs2 : List Addr) (rss2 : List (List Int)) (ol : Addr) (ls2 : List Bool) (b d : Int), vs = [.ref aw, .ref al, .int a, .ref ao, .ref ol, .int b] ∧ Mat H aw rs rss ∧ SqL K H al (ls.map V.bl) ∧ Mat H ao rs2 rss2 ∧ SqL K H ol (ls2.map V.bl) ∧ PairIn d rss rss2 ls ls2 a b ∧
  (∀ H', Same H H' → (∀ w, WordOk d w → lampI ls (walkI rss a w) = lampI ls2 (walkI rss2 b w)) → Q .non H') ∧
  (∀ H' p w, Same H H' → H' p = some (.lst (w.map V.int)) → H p = none → Parts d rss rss2 ls ls2 a b w → Q (.ref p) H')
def metKV (L : List (PK × List Int)) : List (List Key × V) := L.map fun e => ([.inl e.1.1, .inl e.1.2], .bl true)
structure PB (H H' : Hp) (ra md : Addr) (L : List (PK × List Int)) (ts ws : List Addr) : Prop where
  same : Same H H'
  rows : H' ra = some (.lst (ts.map V.ref))
  lt : ts.length = L.length
  lw : ws.length = L.length
  trip : ∀ (i : Nat) (t w : Addr) (e : PK × List Int), ts[i]? = some t → ws[i]? = some w → L[i]? = some e → H' t = some (.lst [.ref w, .int e.1.1, .int e.1.2])
  word : ∀ (i : Nat) (w : Addr) (e : PK × List Int), ws[i]? = some w → L[i]? = some e → H' w = some (.lst (e.2.map V.int))
  met : H' md = some (.dT (metKV L))
  nra : H ra = none
  nmd : H md = none
  nw : ∀ b ∈ ws, H b = none
  ne : ra ≠ md
  out : ∀ b ∈ ts ++ ws, b ≠ ra ∧ b ≠ md
theorem PB.tick {H H' H2 : Hp} {ra md : Addr} {L : List (PK × List Int)} {ts ws : List Addr} (B : PB H H' ra md L ts ws) (s : Same H' H2) : PB H H2 ra md L ts ws :=
  ⟨B.same.trans s, s _ _ B.rows, B.lt, B.lw, fun i t w e h1 h2 h3 => s _ _ (B.trip i t w e h1 h2 h3), fun i w e h1 h2 => s _ _ (B.word i w e h1 h2), s _ _ B.met, B.nra, B.nmd, B.nw, B.ne, B.out⟩
theorem PB.add {H H1 H3 : Hp} {ra md p2 t2 : Addr} {L : List (PK × List Int)} {ts ws : List Addr} (B : PB H H1 ra md L ts ws) {e : PK × List Int} (s : Same (upd H1 md (.dT (metKV L ++ [([.inl e.1.1, .inl e.1.2], .bl true)]))) H3) (hp : (upd H1 md (.dT (metKV L ++ [([.inl e.1.1, .inl e.1.2], .bl true)]))) p2 = none) (ht : (upd H1 md (.dT (metKV L ++ [([.inl e.1.1, .inl e.1.2], .bl true)]))) t2 = none)
    (hp3 : H3 p2 = some (.lst (e.2.map V.int))) (ht3 : H3 t2 = some (.lst [.ref p2, .int e.1.1, .int e.1.2])) :
    PB H (upd H3 ra (.lst (ts.map V.ref ++ [.ref t2]))) ra md (L ++ [e]) (ts ++ [t2]) (ws ++ [p2]) := by
  have hmd : ∀ b o, H1 b = some o → b ≠ md → H3 b = some o := fun b o h hb => s b o (by rw [upd_ne hb]; exact h)
  have pm : p2 ≠ md := fun z => by rw [z, upd_same] at hp; cases hp
  have tm : t2 ≠ md := fun z => by rw [z, upd_same] at ht; cases ht
  rw [upd_ne pm] at hp
  rw [upd_ne tm] at ht
  have pr : p2 ≠ ra := fun z => by have := B.rows; rw [← z, hp] at this; cases this
  have tr : t2 ≠ ra := fun z => by have := B.rows; rw [← z, ht] at this; cases this
  have H3md : H3 md = some (.dT (metKV L ++ [([.inl e.1.1, .inl e.1.2], .bl true)])) := s md _ upd_same
  have s0 : Same H H3 := fun b o h => hmd b o (B.same b o h) (ne_of_none h B.nmd)
  refine ⟨s0.upd_fresh B.nra, by rw [upd_same, List.map_append]; rfl, by simp [B.lt], by simp [B.lw], fun i t w f h1 h2 h3 => ?_, fun i w f h1 h2 => ?_, ?_, B.nra, B.nmd, fun b hb => ?_, B.ne, fun b hb => ?_⟩
  · rcases getElem?_snoc h3 with ⟨hl, h3⟩ | ⟨hl, rfl⟩
    · rw [List.getElem?_append_left (by rw [B.lt]; exact hl)] at h1
      rw [List.getElem?_append_left (by rw [B.lw]; exact hl)] at h2
      obtain ⟨o1, o2⟩ := B.out t (List.mem_append_left _ (List.mem_of_getElem? h1))
      rw [upd_ne o1]; exact hmd _ _ (B.trip i t w f h1 h2 h3) o2
    · rcases getElem?_snoc h1 with ⟨h, _⟩ | ⟨_, rfl⟩
      · rw [B.lt] at h; omega
      · rcases getElem?_snoc h2 with ⟨h, _⟩ | ⟨_, rfl⟩
        · rw [B.lw] at h; omega
        · rw [upd_ne tr]; exact ht3
  · rcases getElem?_snoc h2 with ⟨hl, h2⟩ | ⟨hl, rfl⟩
    · rw [List.getElem?_append_left (by rw [B.lw]; exact hl)] at h1
      obtain ⟨o1, o2⟩ := B.out w (List.mem_append_right _ (List.mem_of_getElem? h1))
      rw [upd_ne o1]; exact hmd _ _ (B.word i w f h1 h2) o2
    · rcases getElem?_snoc h1 with ⟨h, _⟩ | ⟨_, rfl⟩
      · rw [B.lw] at h; omega
      · rw [upd_ne pr]; exact hp3
  · rw [upd_ne (Ne.symm B.ne), H3md]; unfold metKV; rw [List.map_append]; rfl
  · rcases List.mem_append.mp hb with hb | hb
    · exact B.nw b hb
    · rw [List.mem_singleton.mp hb]; exact B.same.free hp
  · have hb : b ∈ (ts ++ [t2]) ++ (ws ++ [p2]) := hb
    simp only [List.mem_append, List.mem_singleton] at hb
    rcases hb with (hb | rfl) | (hb | rfl)
    · exact B.out b (List.mem_append_left _ hb)
    · exact ⟨tr, tm⟩
    · exact B.out b (List.mem_append_right _ hb)
    · exact ⟨pr, pm⟩
theorem metKV_none {r : PK} : ∀ {L : List (PK × List Int)}, hasKeyG L r = false → valV (metKV L) [.inl r.1, .inl r.2] = none
  | [], _ => rfl
  | e :: L, h => by
    have h' : ¬ e.1 = r ∧ hasKeyG L r = false := by simpa [hasKeyG] using h
    show valV ((([.inl e.1.1, .inl e.1.2] : List Key), V.bl true) :: metKV L) _ = _
    rw [valV_neg (fun z => h'.1 (by injection z with z1 z2; injection z2 with z2 _; exact Prod.ext (Sum.inl.inj z1) (Sum.inl.inj z2)))]
    exact metKV_none h'.2
theorem metKV_some {r : PK} : ∀ {L : List (PK × List Int)}, hasKeyG L r = true → (valV (metKV L) [.inl r.1, .inl r.2]).isSome = true
  | [], h => by simp [hasKeyG] at h
  | e :: L, h => by
    show (valV ((([.inl e.1.1, .inl e.1.2] : List Key), V.bl true) :: metKV L) _).isSome = _
    by_cases z : e.1 = r
    · rw [valV_pos (by rw [z])]; rfl
    · rw [valV_neg (fun y => z (by injection y with z1 z2; injection z2 with z2 _; exact Prod.ext (Sum.inl.inj z1) (Sum.inl.inj z2)))]
      exact metKV_some (by simpa [hasKeyG, z] using h)
theorem ok_l_part (T : Txt K mg t) : FnOk P w K mg base CX0 1 t.f_l_part t.fd_l_part ["ways", "lamps", "left", "others", "lights", "right"] (sp_l_part K) := by
  refine T.F_l_part.ok sc_l_part (fun vs H Q E h => ?_) (fun cdv A outer s H vs Q E hr h => ?_)
  · obtain ⟨aw, rs, rss, al, ls, a, ao, rs2, rss2, ol, ls2, b, d, rfl, _⟩ := h
    rfl
  · obtain ⟨aw, rs, rss, al, ls, a, ao, rs2, rss2, ol, ls2, b, d, rfl, M, hL, M2, hL2, PI, qn, qs⟩ := h
    refine exO (pssO_cons (ps_set (i := 6) sc_l_part.nd rfl (Or.inl rfl) (pe_lst (pa_cons (pe_lst (pa_cons (pe_lst (pa_nil)) (pa_cons (pv 2) (pa_cons (pv 5) (pa_nil))) star_lst)) (pa_nil) star_lst)))
 (pssO_consT (i := 7) hr.units1 sc_l_part.nd rfl (Or.inl rfl) (pe_tup (pa_cons (pv 2) (pa_cons (pv 5) (pa_nil)))) (pe_bl)
 (pss_cons (ps_set (i := 8) sc_l_part.nd rfl (Or.inl rfl) (pe_int))
 (pss_cons (ps_while PassesOwn.never (pt_cmpR op_lt (pv 8) (pe_callB (call_len_seqK K) rfl T.m_len PySem.boot_len (pa_cons (pv 6) (pa_nil))) (nomark _))
 (pss_cons (ps_if (pt_cmpR op_ne (pe_ix (ix_listK K) (pv 1) (pe_ix (ix_listK K) (pe_ix (ix_listK K) (pv 6) (pv 8) (fun _ _ => rfl)) (pe_int) (fun _ _ => rfl)) (fun _ _ => rfl)) (pe_ix (ix_listK K) (pv 4) (pe_ix (ix_listK K) (pe_ix (ix_listK K) (pv 6) (pv 8) (fun _ _ => rfl)) (pe_int) (fun _ _ => rfl)) (fun _ _ => rfl)) (nomark _))
 (pss_one (ps_ret (pe_ix (ix_listK K) (pe_ix (ix_listK K) (pv 6) (pv 8) (fun _ _ => rfl)) (pe_int) (fun _ _ => rfl))))
 (pss_nil))
 (pss_cons (ps_for PassesOwn.never rfl (pi_range1 rfl T.m_range (pa_cons (pe_callB (call_len_seqK K) rfl T.m_len PySem.boot_len (pa_cons (pe_ix (ix_listK K) (pv 0) (pe_int) (fun _ _ => rfl)) (pa_nil))) (pa_nil))) (pg_name (i := 9) sc_l_part.nd rfl (Or.inl rfl))
 (pss_cons (ps_set (i := 10) sc_l_part.nd rfl (Or.inl rfl) (pe_ix (ix_listK K) (pe_ix (ix_listK K) (pv 0) (pe_ix (ix_listK K) (pe_ix (ix_listK K) (pv 6) (pv 8) (fun _ _ => rfl)) (pe_int) (fun _ _ => rfl)) (fun _ _ => rfl)) (pv 9) (fun _ _ => rfl)))
 (pss_cons (ps_set (i := 11) sc_l_part.nd rfl (Or.inl rfl) (pe_ix (ix_listK K) (pe_ix (ix_listK K) (pv 3) (pe_ix (ix_listK K) (pe_ix (ix_listK K) (pv 6) (pv 8) (fun _ _ => rfl)) (pe_int) (fun _ _ => rfl)) (fun _ _ => rfl)) (pv 9) (fun _ _ => rfl)))
 (pss_one (ps_join (ps_if (pt_cmp (pc_dnotin hr.units1 (pe_tup (pa_cons (pv 10) (pa_cons (pv 11) (pa_nil)))) (pv 7)))
 (pss_cons (ps_dput hr.units1 (pv 7) (pe_tup (pa_cons (pv 10) (pa_cons (pv 11) (pa_nil)))) (pe_bl) rfl)
 (pss_one (ps_expr (pe_bmK K PySem.F.plainAttrs_list PySem.F.slot_list_append PySem.F.type_list_append mt_append (pv 6) (pa_cons (pe_lst (pa_cons (pe_op op_cat (pe_ix (ix_listK K) (pe_ix (ix_listK K) (pv 6) (pv 8) (fun _ _ => rfl)) (pe_int) (fun _ _ => rfl)) (pe_lst (pa_cons (pv 9) (pa_nil)))) (pa_cons (pv 10) (pa_cons (pv 11) (pa_nil))))) (pa_nil) star_lst)))))
 (pss_nil)))))))
 (pss_one (ps_set (i := 8) sc_l_part.nd rfl (Or.inl rfl) (pe_op op_add (pv 8) (pe_int)))))))
 (pss_one (ps_ret (pe_non))))))) ?_
    have hP0 : walkG (stP rss rss2) (a, b) [] = (a, b) := rfl
    repeat walk_at "sx"
    refine ⟨Nat.zero_le _, fun w0 hw0 => ?_⟩
    repeat walk_at "sx"
    refine ⟨by show 3 ≤ sizeLine; decide, fun t0 ht0 => ?_⟩
    repeat walk_at "sx"
    refine ⟨by show 1 ≤ sizeLine; decide, fun ra hra => ?_⟩
    repeat walk_at "sx"
    intro md hmd
    repeat walk_at "sx"
    refine ⟨by show 2 ≤ sizeLine; decide, fun tp htp => ?_⟩
    repeat walk_at "sx"
    have n_wt : w0 ≠ t0 := fun z => by rw [← z, upd_same] at ht0; cases ht0
    have n_tr : t0 ≠ ra := fun z => by rw [← z, upd_same] at hra; cases hra
    have n_rm : ra ≠ md := fun z => by rw [← z, upd_same] at hmd; cases hmd
    have n_mt : md ≠ tp := fun z => by rw [← z, upd_same] at htp; cases htp
    have f_t0 : H t0 = none := by rw [upd_ne (Ne.symm n_wt)] at ht0; exact ht0
    have f_ra : H ra = none ∧ ra ≠ w0 := by
      rw [upd_ne (Ne.symm n_tr)] at hra
      have : ra ≠ w0 := fun z => by rw [z, upd_same] at hra; cases hra
      rw [upd_ne this] at hra; exact ⟨hra, this⟩
    have f_md : H md = none ∧ md ≠ t0 ∧ md ≠ w0 := by
      rw [upd_ne (Ne.symm n_rm)] at hmd
      have h1 : md ≠ t0 := fun z => by rw [z, upd_same] at hmd; cases hmd
      rw [upd_ne h1] at hmd
      have h2 : md ≠ w0 := fun z => by rw [z, upd_same] at hmd; cases hmd
      rw [upd_ne h2] at hmd; exact ⟨hmd, h1, h2⟩
    refine ⟨tp, [.inl a, .inl b], rfl, upd_same, by rw [upd_ne n_mt]; exact upd_same, ?_⟩
    have f_tp : H tp = none := by
      have := htp
      rw [upd_ne (Ne.symm n_mt)] at this
      exact (((Same.upd_new hw0).trans (Same.upd_new ht0)).trans (Same.upd_new hra)).free this
    have B0 : PB H (upd (upd (upd (upd (upd (upd H w0 (.lst [])) t0 (.lst [.ref w0, .int a, .int b])) ra (.lst [.ref t0])) md (.dT [])) tp (.tup [.int a, .int b])) md (.dT [([.inl a, .inl b], .bl true)])) ra md [((a, b), [])] [t0] [w0] := by
      have n_rtp : ra ≠ tp := fun z => by rw [← z, upd_ne n_rm, upd_same] at htp; cases htp
      have n_ttp : t0 ≠ tp := fun z => by rw [← z, upd_ne (Ne.symm f_md.2.1), upd_ne n_tr, upd_same] at htp; cases htp
      have n_wtp : w0 ≠ tp := fun z => by rw [← z, upd_ne (Ne.symm f_md.2.2), upd_ne (Ne.symm f_ra.2), upd_ne n_wt, upd_same] at htp; cases htp
      refine ⟨((((((Same.upd_new hw0).upd_fresh f_t0).upd_fresh f_ra.1).upd_fresh f_md.1).upd_fresh f_tp).upd_fresh f_md.1), ?_, rfl, rfl, fun i t w e h1 h2 h3 => ?_, fun i w e h1 h2 => ?_, upd_same, f_ra.1, f_md.1, fun b hb => by rw [List.mem_singleton.mp hb]; exact hw0, n_rm, fun b hb => ?_⟩
      · rw [upd_ne n_rm, upd_ne n_rtp, upd_ne n_rm, upd_same]; rfl
      · cases i with
        | zero =>
          cases h1; cases h2; cases h3
          rw [upd_ne (Ne.symm f_md.2.1), upd_ne n_ttp, upd_ne (Ne.symm f_md.2.1), upd_ne n_tr, upd_same]
        | succ i => simp at h1
      · cases i with
        | zero =>
          cases h1; cases h2
          rw [upd_ne (Ne.symm f_md.2.2), upd_ne n_wtp, upd_ne (Ne.symm f_md.2.2), upd_ne (Ne.symm f_ra.2), upd_ne n_wt, upd_same]; rfl
        | succ i => simp at h1
      · have hb : b = t0 ∨ b = w0 := by simpa using hb
        rcases hb with rfl | rfl
        · exact ⟨n_tr, Ne.symm f_md.2.1⟩
        · exact ⟨Ne.symm f_ra.2, Ne.symm f_md.2.2⟩
    generalize upd (upd (upd (upd (upd (upd H w0 (.lst [])) t0 (.lst [.ref w0, .int a, .int b])) ra (.lst [.ref t0])) md (.dT [])) tp (.tup [.int a, .int b])) md (.dT [([.inl a, .inl b], .bl true)]) = H0 at B0 ⊢
    repeat walk_at "sx"
    have hW1 := PI.w1
    have hW2 := PI.w2
    have hd1 := PI.d1
    have hd6 := PI.d6
    have hsz := PI.sz
    have inR : ∀ {w : List Int}, WordOk d w → (0 ≤ walkI rss a w ∧ walkI rss a w < rss.length) ∧ (0 ≤ walkI rss2 b w ∧ walkI rss2 b w < rss2.length) := fun {w} ok => ⟨walkI_in hW1 ok PI.a0 PI.a1, walkI_in hW2 ok PI.b0 PI.b1⟩
    have keyR : ∀ {k j : Nat} {L : List (PK × List Int)}, BIG (stP rss rss2) (a, b) d k j L → ∀ e ∈ L, (0 ≤ e.1.1 ∧ e.1.1 < rss.length) ∧ (0 ≤ e.1.2 ∧ e.1.2 < rss2.length) := fun {k j L} B e he => by
      obtain ⟨h1, h2⟩ := B.ok e he
      rw [walkP] at h2
      have := inR h1
      rw [← h2]; exact this
    have lenR : ∀ {k j : Nat} {L : List (PK × List Int)}, BIG (stP rss rss2) (a, b) d k j L → L.length ≤ rss.length * rss2.length := fun {k j L} B => by
      have h := nodup_le (rss.length * rss2.length) (L.map fun e => e.1.1.toNat * rss2.length + e.1.2.toNat) ?_ ?_
      · simpa using h
      · rw [List.nodup_iff_pairwise_ne, List.pairwise_map]
        have hnd := List.nodup_iff_pairwise_ne.mp B.nd
        rw [List.pairwise_map] at hnd
        refine hnd.imp_of_mem fun {e f} he hf hef z => hef ?_
        obtain ⟨⟨e1, e2⟩, e3, e4⟩ := keyR B e he
        obtain ⟨⟨f1, f2⟩, f3, f4⟩ := keyR B f hf
        have h2 : e.1.2.toNat < rss2.length := by omega
        have h4 : f.1.2.toNat < rss2.length := by omega
        have hm : e.1.2.toNat = f.1.2.toNat := by
          have := congrArg (· % rss2.length) z
          simpa [Nat.mul_add_mod_of_lt, Nat.add_mod, Nat.mod_eq_of_lt h2, Nat.mod_eq_of_lt h4] using this
        have hq : e.1.1.toNat = f.1.1.toNat := by
          rw [hm] at z
          have z' : e.1.1.toNat * rss2.length = f.1.1.toNat * rss2.length := by omega
          exact Nat.eq_of_mul_eq_mul_right (by omega) z'
        exact Prod.ext (by omega) (by omega)
      · intro x hx
        obtain ⟨e, he, rfl⟩ := List.mem_map.mp hx
        obtain ⟨⟨e1, e2⟩, e3, e4⟩ := keyR B e he
        have h1 : e.1.1.toNat + 1 ≤ rss.length := by omega
        have h2 : e.1.2.toNat < rss2.length := by omega
        calc e.1.1.toNat * rss2.length + e.1.2.toNat < e.1.1.toNat * rss2.length + rss2.length := by omega
          _ = (e.1.1.toNat + 1) * rss2.length := by rw [Nat.succ_mul]
          _ ≤ rss.length * rss2.length := Nat.mul_le_mul_right _ h1
    refine ⟨fun m σ H' => ∃ (k : Nat) (L : List (PK × List Int)) (ts ws : List Addr) (k9 k10 k11 : Option V), m = rss.length * rss2.length - k ∧ k ≤ L.length ∧ BIG (stP rss rss2) (a, b) d k 0 L ∧ (∀ (i : Nat) (e : PK × List Int), i < k → L[i]? = some e → lampI ls e.1.1 = lampI ls2 e.1.2) ∧ PB H H' ra md L ts ws ∧
      σ = [some (.ref aw), some (.ref al), some (.int a), some (.ref ao), some (.ref ol), some (.int b), some (.ref ra), some (.ref md), some (.int (k : Int)), k9, k10, k11], ⟨_, 0, _, [t0], [w0], none, none, none, rfl, Nat.zero_le _, BIG.start _ _ _, (fun i e hi => absurd hi (Nat.not_lt_zero i)), B0, rfl⟩, ?_⟩
    rintro m σ H1 ⟨k, L, ts, ws, k9, k10, k11, rfl, hk, BG, eqs, B, rfl⟩
    have hlen := lenR BG
    repeat walk_at "sx"
    refine ⟨ra, _, rfl, .inl (SqL.of B.rows), ?_⟩
    rw [List.length_map, B.lt]
    repeat walk_at "sx"
    refine r_ite (fun hc => ?_) (fun hc => ?_)
    · have hc : k < L.length := by have := of_decide_eq_true hc; omega
      obtain ⟨e, he⟩ : ∃ e, L[k]? = some e := ⟨_, List.getElem?_eq_getElem hc⟩
      obtain ⟨tk, htk⟩ : ∃ tk, ts[k]? = some tk := ⟨_, List.getElem?_eq_getElem (by rw [B.lt]; exact hc)⟩
      obtain ⟨wk, hwk⟩ : ∃ wk, ws[k]? = some wk := ⟨_, List.getElem?_eq_getElem (by rw [B.lw]; exact hc)⟩
      have htk' : (ts.map V.ref)[k]? = some (.ref tk) := by rw [List.getElem?_map, htk]; rfl
      obtain ⟨⟨e1, e2⟩, e3, e4⟩ := keyR BG e (List.mem_of_getElem? he)
      have hel := BG.wlen k k e (Nat.le_refl _) he
      have gl1 : (ls.map V.bl)[e.1.1.toNat]? = some (.bl (lampI ls e.1.1)) := by
        have hlt : e.1.1.toNat < ls.length := by rw [PI.l1]; omega
        unfold lampI
        rw [List.getElem?_map, List.getElem?_eq_getElem hlt, List.getD_eq_getElem?_getD, List.getElem?_eq_getElem hlt]; rfl
      have gl2 : (ls2.map V.bl)[e.1.2.toNat]? = some (.bl (lampI ls2 e.1.2)) := by
        have hlt : e.1.2.toNat < ls2.length := by rw [PI.l2]; omega
        unfold lampI
        rw [List.getElem?_map, List.getElem?_eq_getElem hlt, List.getD_eq_getElem?_getD, List.getElem?_eq_getElem hlt]; rfl
      refine ⟨fun σ' H' => ∃ (L' : List (PK × List Int)) (ts ws : List Addr) (k9 k10 k11 : Option V), k + 1 ≤ L'.length ∧ BIG (stP rss rss2) (a, b) d (k + 1) 0 L' ∧ (∀ (i : Nat) (f : PK × List Int), i < k + 1 → L'[i]? = some f → lampI ls f.1.1 = lampI ls2 f.1.2) ∧ PB H H' ra md L' ts ws ∧
        σ' = [some (.ref aw), some (.ref al), some (.int a), some (.ref ao), some (.ref ol), some (.int b), some (.ref ra), some (.ref md), some (.int ((k : Int) + 1)), k9, k10, k11], fun σ' H' ⟨L', ts, ws, k9, k10, k11, h1, h2, h3, h4, es⟩ => ⟨rss.length * rss2.length - (k + 1), by omega, k + 1, L', ts, ws, k9, k10, k11, rfl, h1, h2, h3, h4, by rw [es]; simp⟩, ?_⟩
      repeat walk_at "sx"
      refine r_ixL (SqL.of B.rows) (atI_nat (j := k) htk') ?_
      repeat walk_at "sx"
      refine r_ixL (SqL.of (B.trip k tk wk e htk hwk he)) (atI_nat (j := 1) rfl) ?_
      repeat walk_at "sx"
      refine r_ixL (sqL_same B.same hL) (atI_get' e1 gl1) ?_
      repeat walk_at "sx"
      refine r_ixL (SqL.of B.rows) (atI_nat (j := k) htk') ?_
      repeat walk_at "sx"
      refine r_ixL (SqL.of (B.trip k tk wk e htk hwk he)) (atI_nat (j := 2) rfl) ?_
      repeat walk_at "sx"
      refine r_ixL (sqL_same B.same hL2) (atI_get' e3 gl2) ?_
      refine r_ne rfl ?_
      repeat walk_at "sx"
      refine r_ite (fun hne => ?_) (fun heq => ?_)
      · have hne : lampI ls e.1.1 ≠ lampI ls2 e.1.2 := by intro z; rw [z] at hne; simp at hne
        repeat walk_at "sx"
        refine r_ixL (SqL.of B.rows) (atI_nat (j := k) htk') ?_
        repeat walk_at "sx"
        refine r_ixL (SqL.of (B.trip k tk wk e htk hwk he)) (atI_nat (j := 0) rfl) ?_
        repeat walk_at "sx"
        obtain ⟨o1, o2⟩ := BG.ok e (List.mem_of_getElem? he)
        rw [walkP] at o2
        refine qs H1 wk e.2 B.same (B.word k wk e hwk he) (B.nw wk (List.mem_of_getElem? hwk)) ⟨o1, ?_, fun v okv hv => ?_⟩
        · rw [← o2] at hne; exact hne
        · obtain ⟨i, f, hi, hL', hf, _⟩ := BG.below e he v.length v (Nat.le_refl _) okv hv
          rw [walkP] at hf
          have := eqs i f hi hL'
          rw [hf] at this
          exact this
      · have heq : lampI ls e.1.1 = lampI ls2 e.1.2 := by simpa using heq
        repeat walk_at "sx"
        have h0 : 0 < rss.length := by have := PI.a0; have := PI.a1; omega
        obtain ⟨row0, hrow0⟩ : ∃ row0, rss[0]? = some row0 := ⟨_, List.getElem?_eq_getElem h0⟩
        obtain ⟨hrl0, _⟩ := hW1.row row0 (List.mem_of_getElem? hrow0)
        obtain ⟨r0, _, x2, x3⟩ := (M.same B.same).get hrow0
        refine r_ixL (SqL.of (B.same _ _ M.top)) (atI_nat (j := 0) x2) ?_
        repeat walk_at "sx"
        refine ⟨r0, _, rfl, .inl (SqL.of x3), ?_⟩
        rw [List.length_map]
        repeat walk_at "sx"
        refine ⟨_, rfl, by omega, by omega, ?_⟩
        refine for_range (fun j σ H' => ∃ (L' : List (PK × List Int)) (ts ws : List Addr) (k9 k10 k11 : Option V), BIG (stP rss rss2) (a, b) d k j L' ∧ (∀ i, i < L.length → L'[i]? = L[i]?) ∧ L.length ≤ L'.length ∧ PB H H' ra md L' ts ws ∧
          σ = [some (.ref aw), some (.ref al), some (.int a), some (.ref ao), some (.ref ol), some (.int b), some (.ref ra), some (.ref md), some (.int (k : Int)), k9, k10, k11]) ⟨L, ts, ws, k9, k10, k11, BG, fun _ _ => rfl, Nat.le_refl _, B, rfl⟩ (fun j σ H2 hj ⟨L', ts', ws', q9, q10, q11, BG', hpre, hle, B', hσ⟩ => ?_) (fun σ H2 ⟨L', ts', ws', q9, q10, q11, BG', hpre, hle, B', hσ⟩ => ?_)
        · subst hσ
          have hjd : (j : Int) < d := by omega
          have e0 : (0 : Int) + (j : Int) = (j : Int) := by omega
          rw [e0]
          have he' : L'[k]? = some e := by rw [hpre k hc]; exact he
          have hlen' := lenR BG'
          obtain ⟨tk', htk1⟩ : ∃ tk, ts'[k]? = some tk := ⟨_, List.getElem?_eq_getElem (by rw [B'.lt]; omega)⟩
          obtain ⟨wk', hwk1⟩ : ∃ wk, ws'[k]? = some wk := ⟨_, List.getElem?_eq_getElem (by rw [B'.lw]; omega)⟩
          have htk2 : (ts'.map V.ref)[k]? = some (.ref tk') := by rw [List.getElem?_map, htk1]; rfl
          obtain ⟨row1, hr1, hv1, _, _⟩ := step_in hW1 e1 e2 (x := (j : Int)) (by omega) hjd
          obtain ⟨row2, hr2, hv2, _, _⟩ := step_in hW2 e3 e4 (x := (j : Int)) (by omega) hjd
          obtain ⟨ra1, _, y2, y3⟩ := (M.same B'.same).get hr1
          obtain ⟨ra2, _, z2, z3⟩ := (M2.same B'.same).get hr2
          repeat walk_at "sx"
          refine r_ixL (SqL.of B'.rows) (atI_nat (j := k) htk2) ?_
          repeat walk_at "sx"
          refine r_ixL (SqL.of (B'.trip k tk' wk' e htk1 hwk1 he')) (atI_nat (j := 1) rfl) ?_
          repeat walk_at "sx"
          refine r_ixL (SqL.of (B'.same _ _ M.top)) (atI_get' e1 y2) ?_
          repeat walk_at "sx"
          refine r_ixL (SqL.of y3) (atI_get' (by omega) (int_map_get hv1)) ?_
          repeat walk_at "sx"
          refine r_ixL (SqL.of B'.rows) (atI_nat (j := k) htk2) ?_
          repeat walk_at "sx"
          refine r_ixL (SqL.of (B'.trip k tk' wk' e htk1 hwk1 he')) (atI_nat (j := 2) rfl) ?_
          repeat walk_at "sx"
          refine r_ixL (SqL.of (B'.same _ _ M2.top)) (atI_get' e3 z2) ?_
          repeat walk_at "sx"
          refine r_ixL (SqL.of z3) (atI_get' (by omega) (int_map_get hv2)) ?_
          repeat walk_at "sx"
          generalize hto : step rss e.1.1 (j : Int) = to
          generalize hgo : step rss2 e.1.2 (j : Int) = go
          have hst : (to, go) = stP rss rss2 e.1 (j : Int) := by rw [← hto, ← hgo]; rfl
          have BA := BG'.add he' hjd hst
          refine r_join (fun σ' H3 => ∃ ts ws, PB H H3 ra md (addDoorG L' e.2 j (to, go)) ts ws ∧ σ' = [some (.ref aw), some (.ref al), some (.int a), some (.ref ao), some (.ref ol), some (.int b), some (.ref ra), some (.ref md), some (.int (k : Int)), some (.int (j : Int)), some (.int to), some (.int go)]) ?_ (fun σ' H3 ⟨ts3, ws3, B3, es⟩ => ⟨_, ts3, ws3, _, _, _, BA, fun i hi => ?_, ?_, B3, es⟩)
          rotate_left
          · unfold addDoorG
            split
            · exact hpre i hi
            · rw [List.getElem?_append_left (by omega)]; exact hpre i hi
          · unfold addDoorG
            split
            · exact hle
            · simp; omega
          repeat walk_at "sx"
          refine ⟨by show 2 ≤ sizeLine; decide, fun tp1 htp1 => ?_⟩
          have B1 := B'.tick (Same.upd_new (o := .tup [.int to, .int go]) htp1)
          have tp1v : (upd H2 tp1 (.tup [.int to, .int go])) tp1 = some (.tup (([.inl to, .inl go] : List Key).map kV)) := upd_same
          generalize upd H2 tp1 (.tup [.int to, .int go]) = H3 at B1 tp1v ⊢
          repeat walk_at "sx"
          refine ⟨md, _, rfl, DGet.t B1.met tp1v, ?_⟩
          repeat walk_at "sx"
          refine r_ite (fun hin => ?_) (fun hin => ?_)
          · have hnk : hasKeyG L' (to, go) = false := by
              cases hz : hasKeyG L' (to, go) with
              | false => rfl
              | true => rw [metKV_some hz] at hin; cases hin
            repeat walk_at "sx"
            refine ⟨by show 2 ≤ sizeLine; decide, fun tp2 htp2 => ?_⟩
            have B2 := B1.tick (Same.upd_new (o := .tup [.int to, .int go]) htp2)
            have tp2v : (upd H3 tp2 (.tup [.int to, .int go])) tp2 = some (.tup (([.inl to, .inl go] : List Key).map kV)) := upd_same
            generalize upd H3 tp2 (.tup [.int to, .int go]) = H4 at B2 tp2v ⊢
            refine ⟨md, _, rfl, DPut.t B2.met tp2v (by unfold metKV; rw [List.length_map]; exact Nat.lt_of_le_of_lt (show _ ≤ 100000 by omega) (by decide)), ?_⟩
            rw [putK_new _ (metKV_none hnk)]
            have rows5 : (upd H4 md (.dT (metKV L' ++ [([.inl to, .inl go], .bl true)]))) ra = some (.lst (ts'.map V.ref)) := by rw [upd_ne B2.ne]; exact B2.rows
            have trip5 : (upd H4 md (.dT (metKV L' ++ [([.inl to, .inl go], .bl true)]))) tk' = some (.lst [.ref wk', .int e.1.1, .int e.1.2]) := by rw [upd_ne (B2.out tk' (List.mem_append_left _ (List.mem_of_getElem? htk1))).2]; exact B2.trip k tk' wk' e htk1 hwk1 he'
            have word5 : (upd H4 md (.dT (metKV L' ++ [([.inl to, .inl go], .bl true)]))) wk' = some (.lst (e.2.map V.int)) := by rw [upd_ne (B2.out wk' (List.mem_append_right _ (List.mem_of_getElem? hwk1))).2]; exact B2.word k wk' e hwk1 he'
            have addB := fun H9 p2 t2 => PB.add (H3 := H9) (p2 := p2) (t2 := t2) (e := ((to, go), e.2 ++ [(j : Int)])) B2
            generalize upd H4 md (.dT (metKV L' ++ [([.inl to, .inl go], .bl true)])) = H5 at rows5 trip5 word5 addB ⊢
            repeat walk_at "sx"
            refine ⟨.inl ⟨rfl, _, SqL.of rows5⟩, ?_⟩
            repeat walk_at "sx"
            refine r_ixL (SqL.of rows5) (atI_nat (j := k) htk2) ?_
            repeat walk_at "sx"
            refine r_ixL (SqL.of trip5) (atI_nat (j := 0) rfl) ?_
            repeat walk_at "sx"
            refine ⟨by show 1 ≤ sizeLine; decide, fun p1 hp1 => ?_⟩
            have s1 := Same.upd_new (o := .lst [.int (j : Int)]) hp1
            refine ⟨wk', p1, _, _, rfl, rfl, s1 _ _ word5, upd_same, (by rw [List.length_map]; show e.2.length + 1 ≤ sizeLine; exact Nat.le_trans (show _ ≤ 200000 by omega) (by decide)), fun p2 hp2 => ?_⟩
            have s2 := s1.trans (Same.upd_new (o := .lst (e.2.map V.int ++ [.int (j : Int)])) hp2)
            have hp2' := s1.free hp2
            have hp2v : (upd (upd H5 p1 (.lst [.int (j : Int)])) p2 (.lst (e.2.map V.int ++ [.int (j : Int)]))) p2 = some (.lst ((e.2 ++ [(j : Int)]).map V.int)) := by rw [upd_same]; simp
            generalize upd (upd H5 p1 (.lst [.int (j : Int)])) p2 (.lst (e.2.map V.int ++ [.int (j : Int)])) = H6 at s2 hp2v ⊢
            repeat walk_at "sx"
            refine ⟨by show 3 ≤ sizeLine; decide, fun t2 ht2 => ?_⟩
            have s3 := s2.trans (Same.upd_new (o := .lst [.ref p2, .int to, .int go]) ht2)
            have ht2' := s2.free ht2
            repeat walk_at "sx"
            refine ⟨ra, _, _, rfl, rfl, s3 _ _ rows5, (by rw [List.length_map, B2.lt]; exact Nat.lt_of_le_of_lt (show _ ≤ 100000 by omega) (by decide)), ?_⟩
            refine ⟨ts' ++ [t2], ws' ++ [p2], ?_, rfl⟩
            unfold addDoorG
            rw [if_neg (by rw [hnk]; decide)]
            exact addB _ p2 t2 s3 hp2' ht2' (by rw [upd_ne (ne_of_none hp2v ht2)]; exact hp2v) upd_same
          · have hyk : hasKeyG L' (to, go) = true := by
              cases hz : hasKeyG L' (to, go) with
              | true => rfl
              | false => rw [metKV_none hz] at hin; cases hin
            repeat walk_at "sx"
            refine ⟨ts', ws', ?_, rfl⟩
            unfold addDoorG
            rw [if_pos hyk]
            exact B1
        · subst hσ
          repeat walk_at "sx"
          have hjd : ((row0.length : Nat) : Int).toNat = d.toNat := by omega
          rw [hjd] at BG'
          refine ⟨L', ts', ws', _, _, _, by omega, BG'.next, fun i f hi hf => ?_, B', rfl⟩
          rw [hpre i (by omega)] at hf
          rcases Nat.lt_or_ge i k with h | h
          · exact eqs i f h hf
          · have : i = k := by omega
            subst this
            rw [he] at hf; cases hf; exact heq
    · have hc : ¬ ((k : Int) < (L.length : Int)) := of_decide_eq_false hc
      have hkl : k = L.length := by omega
      subst hkl
      repeat walk_at "sx"
      refine qn H1 B.same fun w ok => ?_
      obtain ⟨f, hf, hk, _⟩ := BG.all w.length w (Nat.le_refl _) ok
      rw [walkP] at hk
      obtain ⟨i, hi⟩ := List.getElem?_of_mem hf
      have := eqs i f (List.getElem?_eq_some_iff.mp hi).1 hi
      rw [hk] at this
      exact this
/-! #### l_least_words -/
theorem sc_l_least_words : FnScope ["ways", "words", "met", "k", "door", "room"] ["ways"] (defScope s_l_least_words) := ⟨rfl, rfl, rfl, by decide +kernel, rfl, by decide +kernel, by decide +kernel⟩
theorem b_l_least_words (T : Txt K mg t) : Binds K t.fd_l_least_words ["ways"] [] := T.F_l_least_words.binds fun _ _ _ _ _ _ us hl => by obtain ⟨_, rfl⟩ := len_1 hl; rfl
theorem big6 {n : Nat} (h : n ≤ 1000000) : n < sizeLine := Nat.lt_of_le_of_lt h (by decide)
theorem _root_.L2.LsAt.keep {α : Type} {g : α → V} {H H' : Hp} {as : List Addr} {ws : List (List α)} (l : LsAt g H as ws) (k : ∀ b ∈ as, ∀ o, H b = some o → H' b = some o) : LsAt g H' as ws :=
  ⟨l.len, fun i a w h1 h2 => k a (List.mem_of_getElem? h1) _ (l.row i a w h1 h2)⟩
theorem _root_.L2.LsAt.snoc {α : Type} {g : α → V} {H : Hp} {as : List Addr} {ws : List (List α)} (l : LsAt g H as ws) {a : Addr} {w : List α} (h : H a = some (.lst (w.map g))) : LsAt g H (as ++ [a]) (ws ++ [w]) := by
  refine ⟨by rw [List.length_append, List.length_append, l.len]; rfl, fun i b v h1 h2 => ?_⟩
  by_cases hi : i < as.length
  · rw [List.getElem?_append_left hi] at h1
    rw [List.getElem?_append_left (by rw [← l.len]; exact hi)] at h2
    exact l.row i b v h1 h2
  · have h3 := (List.getElem?_eq_some_iff.mp h1).1
    rw [List.length_append, List.length_singleton] at h3
    have hi2 : i = as.length := by omega
    rw [hi2, List.getElem?_append_right (Nat.le_refl _), Nat.sub_self] at h1
    rw [hi2, l.len, List.getElem?_append_right (Nat.le_refl _), Nat.sub_self] at h2
    cases h1; cases h2
    exact h
theorem _root_.L2.LsAt.get {α : Type} {g : α → V} {H : Hp} {as : List Addr} {ws : List (List α)} (l : LsAt g H as ws) {i : Nat} {w : List α} (h : ws[i]? = some w) : ∃ a, as[i]? = some a ∧ (as.map V.ref)[i]? = some (.ref a) ∧ H a = some (.lst (w.map g)) := by
  have hi : i < as.length := by rw [l.len]; exact (List.getElem?_eq_some_iff.mp h).1
  refine ⟨as[i], List.getElem?_eq_getElem hi, by rw [List.getElem?_map, List.getElem?_eq_getElem hi]; rfl, l.row i _ w (List.getElem?_eq_getElem hi) h⟩
def metK (L : List Ent) : List (Key × V) := L.map fun e => ((.inl e.1 : Key), V.bl true)
theorem metK_val (r : Int) : ∀ L : List Ent, (valV (metK L) (.inl r : Key)).isSome = hasKey L r
  | [] => rfl
  | e :: L => by
    show (valV (((Sum.inl e.1 : Key), V.bl true) :: metK L) (.inl r)).isSome = _
    by_cases h : e.1 = r
    · rw [valV_pos (by rw [← h])]; simp [hasKey, h]
    · rw [valV_neg (fun z => h (Sum.inl.inj z)), metK_val r L]; simp [hasKey, h]
def sp_l_least_words (K : PySem.W.Frag) : Sp := fun vs H Q _ => ∃ (aw : Addr) (rs : List Addr) (rss : List (List Int)) (d : Int), vs = [.ref aw] ∧ Mat H aw rs rss ∧ Ways d rss ∧ 0 < rss.length ∧ rss.length ≤ 400 ∧ 1 ≤ d ∧ d ≤ 6 ∧
  (∀ H' wa wA, Same H H' → H' wa = some (.lst (wA.map V.ref)) → LsAt V.int H' wA ((bfs rss).map Prod.snd) → (∀ b ∈ wa :: wA, H b = none) → Q (.ref wa) H')
structure LW (H H' : Hp) (wa md : Addr) (wA : List Addr) (L : List Ent) : Prop where
  same : Same H H'
  ws : H' wa = some (.lst (wA.map V.ref))
  ww : LsAt V.int H' wA (L.map Prod.snd)
  met : H' md = some (.dK (metK L))
  new : ∀ b, b = md ∨ b ∈ wa :: wA → H b = none
  n1 : wa ∉ wA
  n2 : md ∉ wA
theorem LW.tick {H H' H2 : Hp} {wa md : Addr} {wA : List Addr} {L : List Ent} (w : LW H H' wa md wA L) (s : Same H' H2) : LW H H2 wa md wA L :=
  ⟨w.same.trans s, s _ _ w.ws, w.ww.keep fun b _ o e => s b o e, s _ _ w.met, w.new, w.n1, w.n2⟩
theorem ok_l_least_words (T : Txt K mg t) : FnOk P w K mg base CX0 2 t.f_l_least_words t.fd_l_least_words ["ways"] (sp_l_least_words K) := by
  refine T.F_l_least_words.ok sc_l_least_words (fun vs H Q E h => ?_) (fun cdv A outer s H vs Q E hr h => ?_)
  · obtain ⟨aw, rs, rss, d, rfl, _⟩ := h
    rfl
  · obtain ⟨aw, rs, rss, d, rfl, M, Wy, h0, h400, hd1, hd6, q⟩ := h
    refine exO (pssO_cons (ps_set (i := 1) sc_l_least_words.nd rfl (Or.inl rfl) (pe_lst (pa_cons (pe_lst (pa_nil)) (pa_nil) star_lst)))
 (pssO_consD (i := 2) sc_l_least_words.nd rfl (Or.inl rfl) (pe_int) (pe_bl)
 (pss_cons (ps_for PassesOwn.never rfl (pi_range1 rfl T.m_range (pa_cons (pe_callB (call_len_seqK K) rfl T.m_len PySem.boot_len (pa_cons (pv 0) (pa_nil))) (pa_nil))) (pg_name (i := 3) sc_l_least_words.nd rfl (Or.inl rfl))
 (pss_one (ps_for PassesOwn.never rfl (pi_range1 rfl T.m_range (pa_cons (pe_callB (call_len_seqK K) rfl T.m_len PySem.boot_len (pa_cons (pe_ix (ix_listK K) (pv 0) (pe_int) (fun _ _ => rfl)) (pa_nil))) (pa_nil))) (pg_name (i := 4) sc_l_least_words.nd rfl (Or.inl rfl))
 (pss_one (ps_join (ps_if (pt_cmpR op_lt (pv 3) (pe_callB (call_len_seqK K) rfl T.m_len PySem.boot_len (pa_cons (pv 1) (pa_nil))) (nomark _))
 (pss_cons (ps_set (i := 5) sc_l_least_words.nd rfl (Or.inl rfl) (pe_call (ok_l_walk T) (hr.mono (by decide)) rfl T.mg_l_walk T.F_l_walk.kp (b_l_walk T) .nil pass0 (pa_cons (pv 0) (pa_cons (pe_int) (pa_cons (pe_op op_cat (pe_ix (ix_listK K) (pv 1) (pv 3) (fun _ _ => rfl)) (pe_lst (pa_cons (pv 4) (pa_nil)))) (pa_nil))))))
 (pss_one (ps_join (ps_if (pt_cmp (pc_dnotin hr.units1 (pv 5) (pv 2)))
 (pss_cons (ps_dput hr.units1 (pv 2) (pv 5) (pe_bl) rfl)
 (pss_one (ps_expr (pe_bmK K PySem.F.plainAttrs_list PySem.F.slot_list_append PySem.F.type_list_append mt_append (pv 1) (pa_cons (pe_op op_cat (pe_ix (ix_listK K) (pv 1) (pv 3) (fun _ _ => rfl)) (pe_lst (pa_cons (pv 4) (pa_nil)))) (pa_nil))))))
 (pss_nil)))))
 (pss_nil)))))))
 (pss_one (ps_ret (pv 1)))))) ?_
    repeat walk_at "sx"
    refine ⟨Nat.zero_le _, fun w0 hw0 => ?_⟩
    have s1 : Same H (upd H w0 (.lst [])) := Same.upd_new hw0
    have w01 : (upd H w0 (.lst [])) w0 = some (.lst (([] : List Int).map V.int)) := upd_same
    generalize upd H w0 (.lst []) = H1 at s1 w01 ⊢
    repeat walk_at "sx"
    refine ⟨by show 1 ≤ sizeLine; decide, fun wa hwa => ?_⟩
    have s2 : Same H1 (upd H1 wa (.lst [.ref w0])) := Same.upd_new hwa
    have wa2 : (upd H1 wa (.lst [.ref w0])) wa = some (.lst ([w0].map V.ref)) := upd_same
    have nw : wa ≠ w0 := fun z => by rw [z, w01] at hwa; cases hwa
    generalize upd H1 wa (.lst [.ref w0]) = H2 at s2 wa2 ⊢
    have hwaH : H wa = none := s1.free hwa
    repeat walk_at "sx"
    intro md hmd
    show tC _ _ _ _
    repeat walk_at "sx"
    refine ⟨upd_same, [(.inl 0, .bl true)], rfl, (by show 1 ≤ 15; decide), ?_⟩
    have e3 : mergeK [] [((.inl 0 : Key), V.bl true)] = metK [(0, [])] := rfl
    rw [e3, upd_upd]
    have s3 : Same H2 (upd H2 md (.dK (metK [(0, [])]))) := Same.upd_new hmd
    have md3 : (upd H2 md (.dK (metK [(0, [])]))) md = some (.dK (metK [(0, [])])) := upd_same
    have hmdH : H md = none := (s1.trans s2).free hmd
    have nmw : md ≠ w0 := fun z => by rw [z, s2 _ _ w01] at hmd; cases hmd
    have B0 : LW H (upd H2 md (.dK (metK [(0, [])]))) wa md [w0] (bfsK rss 0) := by
      refine ⟨s1.trans (s2.trans s3), s3 _ _ wa2, ⟨rfl, fun i b v h1 h2 => ?_⟩, md3, fun b hb => ?_, by simp [nw], by simp [nmw]⟩
      · cases i with
        | zero => cases h1; cases h2; exact s3 _ _ (s2 _ _ w01)
        | succ i => simp at h1
      · rcases hb with rfl | hb
        · exact hmdH
        · rcases List.mem_cons.mp hb with rfl | hb
          · exact hwaH
          · rw [List.mem_singleton.mp hb]; exact hw0
    generalize upd H2 md (.dK (metK [(0, [])])) = H3 at B0 ⊢
    clear s1 s2 s3 w01 wa2 md3
    obtain ⟨row0, hrow0⟩ : ∃ row0, rss[0]? = some row0 := ⟨_, List.getElem?_eq_getElem h0⟩
    have hr0l : (row0.length : Int) = d := (Wy.row row0 (List.mem_of_getElem? hrow0)).1
    repeat walk_at "sx"
    refine ⟨aw, _, rfl, .inl (SqL.of (B0.same _ _ M.top)), ?_⟩
    have eM : (rs.map V.ref).length = rss.length := by rw [List.length_map, M.len]
    rw [eM]
    repeat walk_at "sx"
    refine ⟨_, rfl, by omega, by omega, ?_⟩
    refine for_range (fun k σ H' => ∃ wA k3 k4 k5, LW H H' wa md wA (bfsK rss k) ∧ σ = [some (.ref aw), some (.ref wa), some (.ref md), k3, k4, k5]) ⟨[w0], _, _, _, B0, rfl⟩ (fun k σ H4 hk pp => ?_) (fun σ H4 pp => ?_)
    · obtain ⟨wA, k3, k4, k5, B, rfl⟩ := pp
      have e0 : (0 : Int) + (k : Int) = (k : Int) := by omega
      rw [e0]
      have hk' : k < rss.length := by omega
      obtain ⟨r0, _, r0b, r0c⟩ := (M.same B.same).get hrow0
      repeat walk_at "sx"
      refine r_ixL (SqL.of (B.same _ _ M.top)) (atI_nat (j := 0) r0b) ?_
      repeat walk_at "sx"
      refine ⟨r0, _, rfl, .inl (SqL.of r0c), ?_⟩
      rw [List.length_map]
      repeat walk_at "sx"
      refine ⟨_, rfl, by omega, by omega, ?_⟩
      by_cases hkl : k < (bfsK rss k).length
      · have BK := bfsK_ok Wy h0 k (by omega)
        obtain ⟨e, he⟩ : ∃ e, (bfsK rss k)[k]? = some e := ⟨_, List.getElem?_eq_getElem hkl⟩
        have hek := BK.keys Wy h0 e (List.mem_of_getElem? he)
        have hew := (BK.ok e (List.mem_of_getElem? he))
        have hel := BK.wlen k k e (Nat.le_refl _) he
        have hrl := rowlen Wy hek.1 hek.2
        have hnext : bfsK rss (k + 1) = rowK (bfsK rss k) e.2 (rss.getD e.1.toNat []) d.toNat := by
          show bfsAt rss (bfsK rss k) k = _
          unfold bfsAt
          rw [he]
          dsimp only
          congr 1; omega
        rw [hnext]
        refine for_range (fun j σ H' => ∃ wA k4 k5, LW H H' wa md wA (rowK (bfsK rss k) e.2 (rss.getD e.1.toNat []) j) ∧ σ = [some (.ref aw), some (.ref wa), some (.ref md), some (.int (k : Int)), k4, k5]) ⟨wA, _, _, B, rfl⟩ (fun j σ H5 hj pp => ?_) (fun σ H5 pp => ?_)
        · obtain ⟨wA5, k4, k5, B5, rfl⟩ := pp
          have e0 : (0 : Int) + (j : Int) = (j : Int) := by omega
          rw [e0]
          have hjd : (j : Int) < d := by omega
          have BJ := BK.rowK Wy h0 he (j := j) (by omega)
          have hBl := BJ.len Wy h0
          have hge := rowK_get (w := e.2) (row := rss.getD e.1.toNat []) he j
          have hgs : ((rowK (bfsK rss k) e.2 (rss.getD e.1.toNat []) j).map Prod.snd)[k]? = some e.2 := by rw [List.getElem?_map, hge]; rfl
          have hlen5 : (wA5.map V.ref).length = (rowK (bfsK rss k) e.2 (rss.getD e.1.toNat []) j).length := by rw [List.length_map, B5.ww.len, List.length_map]
          have hkl5 : k < (rowK (bfsK rss k) e.2 (rss.getD e.1.toNat []) j).length := (List.getElem?_eq_some_iff.mp hge).1
          have hstep : (rss.getD e.1.toNat []).getD j 0 = walkI rss 0 (e.2 ++ [(j : Int)]) := by
            rw [walkI_snoc, hew.2]
            unfold step
            rw [Int.toNat_natCast]
          have hrk : rowK (bfsK rss k) e.2 (rss.getD e.1.toNat []) (j + 1) = addDoor (rowK (bfsK rss k) e.2 (rss.getD e.1.toNat []) j) e.2 j ((rss.getD e.1.toNat []).getD j 0) := rfl
          rw [hrk, hstep]
          generalize rowK (bfsK rss k) e.2 (rss.getD e.1.toNat []) j = L at B5 BJ hBl hge hgs hlen5 hkl5
          obtain ⟨wk, wk1, wk2, wk3⟩ := B5.ww.get hgs
          have hwo : WordOk d (e.2 ++ [(j : Int)]) := wok_app hew.1 fun x hx => by rw [List.mem_singleton.mp hx]; omega
          repeat walk_at "sx"
          refine r_join (fun σ' H' => ∃ wA k4 k5, LW H H' wa md wA (addDoor L e.2 j (walkI rss 0 (e.2 ++ [(j : Int)]))) ∧ σ' = [some (.ref aw), some (.ref wa), some (.ref md), some (.int (k : Int)), k4, k5]) ?_ (fun σ' H' z => z)
          repeat walk_at "sx"
          refine ⟨wa, _, rfl, .inl (SqL.of B5.ws), ?_⟩
          rw [hlen5]
          repeat walk_at "sx"
          refine r_iteP (decide_eq_true (by omega)) ?_
          repeat walk_at "sx"
          have catW : ∀ {Hx : Hp} {R : VK}, LW H Hx wa md wA5 L → (∀ c2 H', Hx c2 = none → Same Hx H' → H' c2 = some (.lst ((e.2 ++ [(j : Int)]).map V.int)) → R (.ref c2) H') → True := fun _ _ => trivial
          clear catW
          refine r_ixL (SqL.of B5.ws) (atI_nat (j := k) wk2) ?_
          repeat walk_at "sx"
          refine ⟨by show 1 ≤ sizeLine; decide, fun c1 hc1 => ?_⟩
          have s6 : Same H5 (upd H5 c1 (.lst [.int (j : Int)])) := Same.upd_new hc1
          have c16 : (upd H5 c1 (.lst [.int (j : Int)])) c1 = some (.lst [.int (j : Int)]) := upd_same
          generalize upd H5 c1 (.lst [.int (j : Int)]) = H6 at s6 c16 ⊢
          refine ⟨wk, c1, _, _, rfl, rfl, s6 _ _ wk3, c16, Nat.le_of_lt (big6 (by simp; omega)), fun c2 hc2 => ?_⟩
          have ec2 : e.2.map V.int ++ [V.int (j : Int)] = (e.2 ++ [(j : Int)]).map V.int := by rw [List.map_append]; rfl
          rw [ec2]
          have s7 : Same H6 (upd H6 c2 (.lst ((e.2 ++ [(j : Int)]).map V.int))) := Same.upd_new hc2
          have c27 : (upd H6 c2 (.lst ((e.2 ++ [(j : Int)]).map V.int))) c2 = some (.lst ((e.2 ++ [(j : Int)]).map V.int)) := upd_same
          generalize upd H6 c2 (.lst ((e.2 ++ [(j : Int)]).map V.int)) = H7 at s7 c27 ⊢
          have B7 := B5.tick (s6.trans s7)
          repeat walk_at "sx"
          refine ⟨aw, rs, rss, d, 0, c2, _, rfl, M.same B7.same, Wy, SqL.of c27, hwo, by omega, by omega, ?_⟩
          repeat walk_at "sx"
          refine r_join (fun σ' H' => ∃ wA k4 k5, LW H H' wa md wA (addDoor L e.2 j (walkI rss 0 (e.2 ++ [(j : Int)]))) ∧ σ' = [some (.ref aw), some (.ref wa), some (.ref md), some (.int (k : Int)), k4, k5]) ?_ (fun σ' H' z => z)
          repeat walk_at "sx"
          refine ⟨md, _, rfl, DGet.k (k := .inl (walkI rss 0 (e.2 ++ [(j : Int)]))) B7.met, ?_⟩
          rw [metK_val]
          repeat walk_at "sx"
          by_cases hh : hasKey L (walkI rss 0 (e.2 ++ [(j : Int)])) = true
          · refine r_iteN (by rw [hh]; rfl) ?_
            repeat walk_at "sx"
            unfold addDoor
            rw [if_pos hh]
            exact ⟨wA5, _, _, B7, rfl⟩
          · have hh' : hasKey L (walkI rss 0 (e.2 ++ [(j : Int)])) = false := by simpa using hh
            refine r_iteP (by rw [hh']; rfl) ?_
            unfold addDoor
            rw [if_neg hh]
            repeat walk_at "sx"
            refine ⟨md, _, rfl, DPut.k (k := .inl (walkI rss 0 (e.2 ++ [(j : Int)]))) B7.met (by unfold metK; rw [List.length_map]; exact big6 (by omega)), ?_⟩
            rw [putK_new _ (by have := metK_val (walkI rss 0 (e.2 ++ [(j : Int)])) L; rw [hh'] at this; simpa using this)]
            have k8 : ∀ b o, b ≠ md → H7 b = some o → upd H7 md (.dK (metK L ++ [((.inl (walkI rss 0 (e.2 ++ [(j : Int)])) : Key), V.bl true)])) b = some o := fun b o hb e => by rw [upd_ne hb]; exact e
            have md8 : upd H7 md (.dK (metK L ++ [((.inl (walkI rss 0 (e.2 ++ [(j : Int)])) : Key), V.bl true)])) md = some (.dK (metK (L ++ [(walkI rss 0 (e.2 ++ [(j : Int)]), e.2 ++ [(j : Int)])]))) := by rw [upd_same]; unfold metK; rw [List.map_append]; rfl
            generalize upd H7 md (.dK (metK L ++ [((.inl (walkI rss 0 (e.2 ++ [(j : Int)])) : Key), V.bl true)])) = H8 at k8 md8 ⊢
            have nml : ∀ b xs, H7 b = some (.lst xs) → b ≠ md := fun b xs e => ne_of e B7.met (fun z => nomatch z)
            have wk8 := k8 _ _ (nml _ _ (s7 _ _ (s6 _ _ wk3))) (s7 _ _ (s6 _ _ wk3))
            have wa8 := k8 _ _ (nml _ _ B7.ws) B7.ws
            repeat walk_at "sx"
            refine ⟨.inl ⟨rfl, _, SqL.of wa8⟩, ?_⟩
            repeat walk_at "sx"
            refine r_ixL (SqL.of wa8) (atI_nat (j := k) wk2) ?_
            repeat walk_at "sx"
            refine ⟨by show 1 ≤ sizeLine; decide, fun d1 hd1' => ?_⟩
            have s9 : Same H8 (upd H8 d1 (.lst [.int (j : Int)])) := Same.upd_new hd1'
            have d19 : (upd H8 d1 (.lst [.int (j : Int)])) d1 = some (.lst [.int (j : Int)]) := upd_same
            generalize upd H8 d1 (.lst [.int (j : Int)]) = H9 at s9 d19 ⊢
            refine ⟨wk, d1, _, _, rfl, rfl, s9 _ _ wk8, d19, Nat.le_of_lt (big6 (by simp; omega)), fun d2 hd2 => ?_⟩
            rw [ec2]
            have s10 : Same H9 (upd H9 d2 (.lst ((e.2 ++ [(j : Int)]).map V.int))) := Same.upd_new hd2
            have d210 : (upd H9 d2 (.lst ((e.2 ++ [(j : Int)]).map V.int))) d2 = some (.lst ((e.2 ++ [(j : Int)]).map V.int)) := upd_same
            have nd2 : d2 ≠ wa := fun z => by rw [z, s9 _ _ wa8] at hd2; cases hd2
            have nd3 : d2 ≠ md := fun z => by rw [z, s9 _ _ md8] at hd2; cases hd2
            generalize upd H9 d2 (.lst ((e.2 ++ [(j : Int)]).map V.int)) = H10 at s10 d210 ⊢
            have s810 := s9.trans s10
            have nwm : wa ≠ md := nml _ _ B7.ws
            repeat walk_at "sx"
            refine ⟨wa, _, _, rfl, rfl, s810 _ _ wa8, big6 (by rw [hlen5]; omega), ?_⟩
            have hnH : ∀ b, H9 b = none → H b = none := fun b e => by
              cases hh : H b with
              | none => rfl
              | some o =>
                have nb : b ≠ md := fun z => by rw [z, B7.new md (.inl rfl)] at hh; cases hh
                rw [s9 _ _ (k8 b o nb (B7.same b o hh))] at e; cases e
            refine ⟨wA5 ++ [d2], _, _, ⟨fun b o e => ?_, by rw [upd_same, List.map_append]; rfl, ?_, by rw [upd_ne (Ne.symm nwm)]; exact s810 _ _ md8, fun b hb => ?_, ?_, ?_⟩, rfl⟩
            · have n1 : b ≠ wa := fun z => by rw [z, B7.new wa (.inr List.mem_cons_self)] at e; cases e
              have n2 : b ≠ md := fun z => by rw [z, B7.new md (.inl rfl)] at e; cases e
              rw [upd_ne n1]; exact s810 _ _ (k8 b o n2 (B7.same b o e))
            · rw [List.map_append]
              refine LsAt.snoc (B7.ww.keep fun b hb o e => ?_) (by rw [upd_ne nd2]; exact d210)
              have n1 : b ≠ wa := fun z => B7.n1 (by rw [← z]; exact hb)
              have n2 : b ≠ md := fun z => B7.n2 (by rw [← z]; exact hb)
              rw [upd_ne n1]; exact s810 _ _ (k8 b o n2 e)
            · rcases hb with rfl | hb
              · exact B7.new _ (.inl rfl)
              · rcases List.mem_cons.mp hb with rfl | hb
                · exact B7.new _ (.inr List.mem_cons_self)
                · rcases List.mem_append.mp hb with hb | hb
                  · exact B7.new b (.inr (List.mem_cons_of_mem _ hb))
                  · rw [List.mem_singleton.mp hb]; exact hnH _ hd2
            · intro z
              rcases List.mem_append.mp z with z | z
              · exact B7.n1 z
              · exact nd2 (List.mem_singleton.mp z).symm
            · intro z
              rcases List.mem_append.mp z with z | z
              · exact B7.n2 z
              · exact nd3 (List.mem_singleton.mp z).symm
        · obtain ⟨wA5, k4, k5, B5, rfl⟩ := pp
          have ed : ((row0.length : Int)).toNat = d.toNat := by omega
          rw [ed] at B5
          exact ⟨wA5, _, _, _, B5, rfl⟩
      · have hstop : bfsK rss (k + 1) = bfsK rss k := by
          have := bfsK_stop (rss := rss) (k := k) (by omega) 1
          exact this
        rw [hstop]
        have hlen4 : (wA.map V.ref).length = (bfsK rss k).length := by rw [List.length_map, B.ww.len, List.length_map]
        refine for_range (fun j σ H' => H4 = H' ∧ ∃ k4 k5, σ = [some (.ref aw), some (.ref wa), some (.ref md), some (.int (k : Int)), k4, k5]) ⟨rfl, _, _, rfl⟩ (fun j σ H5 hj pp => ?_) (fun σ H5 pp => ?_)
        · obtain ⟨rfl, k4, k5, rfl⟩ := pp
          repeat walk_at "sx"
          refine r_join (fun σ' H' => H4 = H' ∧ ∃ k4 k5, σ' = [some (.ref aw), some (.ref wa), some (.ref md), some (.int (k : Int)), k4, k5]) ?_ (fun σ' H' z => z)
          repeat walk_at "sx"
          refine ⟨wa, _, rfl, .inl (SqL.of B.ws), ?_⟩
          rw [hlen4]
          repeat walk_at "sx"
          refine r_iteN (decide_eq_false (by omega)) ?_
          repeat walk_at "sx"
          exact ⟨rfl, _, _, rfl⟩
        · obtain ⟨rfl, k4, k5, rfl⟩ := pp
          exact ⟨wA, _, _, _, B, rfl⟩
    · obtain ⟨wA, k3, k4, k5, B, rfl⟩ := pp
      rw [Int.toNat_natCast] at B
      repeat walk_at "sx"
      exact q H4 wa wA B.same B.ws B.ww fun b hb => B.new b (.inr hb)
/-! #### law -/
theorem sc_law : FnScope ["script", "doors", "rooms", "ways", "lamps", "first", "k", "door", "house", "turn", "found", "one", "other"] ["script"] (defScope s_law) := ⟨rfl, rfl, rfl, by decide +kernel, rfl, by decide +kernel, by decide +kernel⟩
def sp_law (K : PySem.W.Frag) : Sp := fun vs H Q _ => ∃ (a : Addr) (ns : List Int), vs = [.ref a] ∧ SqL K H a (ns.map V.int) ∧ ns.length ≤ 63 ∧ ∀ H', Q (.bl true) H'
theorem ways_map {d r : Int} (f : Nat → List Int) (n : Nat) (hn : n = r.toNat) (hr : 0 < r) (h : ∀ k, k < n → ((f k).length : Int) = d ∧ ∀ x ∈ f k, 0 ≤ x ∧ x < r) : Ways d ((List.range n).map f) := by
  refine ⟨fun row hrow => ?_⟩
  obtain ⟨k, hk, rfl⟩ := List.mem_map.mp hrow
  have hk : k < n := List.mem_range.mp hk
  obtain ⟨h1, h2⟩ := h k hk
  refine ⟨h1, fun x hx => ?_⟩
  have := h2 x hx
  rw [List.length_map, List.length_range]
  omega
/-- the house that is drawn -/
structure D8 (H H' : Hp) (d r : Int) (aw : Addr) (rs : List Addr) (rss : List (List Int)) (al : Addr) (ls : List Bool) : Prop where
  same : Same H H'
  M : Mat H' aw rs rss
  W : Ways d rss
  rl : rss.length = r.toNat
  la : H' al = some (.lst (ls.map V.bl))
  ll : ls.length = r.toNat
  new : ∀ b ∈ al :: aw :: rs, H b = none
  out : al ∉ aw :: rs
theorem D8.lamp {H H' : Hp} {d r : Int} {aw : Addr} {rs : List Addr} {rss : List (List Int)} {al : Addr} {ls : List Bool} (D : D8 H H' d r aw rs rss al ls) (k : Nat) (v : Bool) : D8 H (upd H' al (.lst ((ls.set k v).map V.bl))) d r aw rs rss al (ls.set k v) := by
  refine ⟨D.same.upd_fresh (D.new al (by simp)), ⟨?_, D.M.len, fun i b row h1 h2 => ?_, D.M.nd⟩, D.W, D.rl, upd_same, by rw [List.length_set]; exact D.ll, D.new, D.out⟩
  · rw [upd_ne (fun z => D.out (by rw [← z]; simp))]; exact D.M.top
  · rw [upd_ne (fun z => D.out (by rw [← z]; exact List.mem_cons_of_mem _ (List.mem_of_getElem? h1)))]; exact D.M.row i b row h1 h2
theorem D8.cell {H H' : Hp} {d r : Int} {aw : Addr} {rs : List Addr} {rss : List (List Int)} {al : Addr} {ls : List Bool} (D : D8 H H' d r aw rs rss al ls) {k : Nat} {b : Addr} {row : List Int} (hb : rs[k]? = some b) (hr : rss[k]? = some row) (j : Nat) {v : Int} (v0 : 0 ≤ v) (v1 : v < r) : D8 H (upd H' b (.lst ((row.set j v).map V.int))) d r aw rs (rss.set k (row.set j v)) al ls := by
  have hbm := List.mem_of_getElem? hb
  refine ⟨D.same.upd_fresh (D.new b (by simp [hbm])), D.M.setRow hb _, ⟨fun row' h' => ?_⟩, by rw [List.length_set]; exact D.rl, ?_, D.ll, D.new, D.out⟩
  · rw [List.length_set]
    have hrr := D.W.row row (List.mem_of_getElem? hr)
    rcases List.mem_or_eq_of_mem_set h' with h' | rfl
    · exact D.W.row row' h'
    · refine ⟨by rw [List.length_set]; exact hrr.1, fun x hx => ?_⟩
      rcases List.mem_or_eq_of_mem_set hx with hx | rfl
      · exact hrr.2 x hx
      · have := D.rl; omega
  · rw [upd_ne (fun z => D.out (by rw [z]; exact List.mem_cons_of_mem _ hbm))]; exact D.la
theorem ok_law (T : Txt K mg t) : FnOk P w K mg base CX0 8 t.f_law t.fd_law ["script"] (sp_law K) := by
  refine T.F_law.ok sc_law (fun vs H Q E h => ?_) (fun cdv A outer s H vs Q E hr h => ?_)
  · obtain ⟨a, ns, rfl, _⟩ := h
    rfl
  · obtain ⟨a, ns, rfl, hS, hlen, q⟩ := h
    refine ⟨_, pss_cons (ps_set (i := 1) sc_law.nd rfl (Or.inl rfl) (pe_op op_add (pe_int) (pe_op op_mod (pe_call (ok_l_cell_at T) (hr.mono (by decide)) rfl T.mg_l_cell_at T.F_l_cell_at.kp (b_l_cell_at T) .nil pass0 (pa_cons (pv 0) (pa_cons (pe_int) (pa_nil)))) (pe_int))))
 (pss_cons (ps_set (i := 2) sc_law.nd rfl (Or.inr rfl) (pe_op op_add (pe_int) (pe_op op_mod (pe_call (ok_l_cell_at T) (hr.mono (by decide)) rfl T.mg_l_cell_at T.F_l_cell_at.kp (b_l_cell_at T) .nil pass0 (pa_cons (pv 0) (pa_cons (pe_int) (pa_nil)))) (pe_int))))
 (pss_cons (ps_set (i := 3) sc_law.nd rfl (Or.inl rfl) (pe_call (ok_l_ways_by T) (hr.mono (by decide)) rfl T.mg_l_ways_by T.F_l_ways_by.kp (b_l_ways_by T) .nil pass0 (pa_cons (pe_call (ok_l_cell_at T) (hr.mono (by decide)) rfl T.mg_l_cell_at T.F_l_cell_at.kp (b_l_cell_at T) .nil pass0 (pa_cons (pv 0) (pa_cons (pe_int) (pa_nil)))) (pa_cons (pv 1) (pa_cons (pv 2) (pa_nil))))))
 (pss_cons (ps_set (i := 4) sc_law.nd rfl (Or.inl rfl) (pe_call (ok_l_lamps_by T) (hr.mono (by decide)) rfl T.mg_l_lamps_by T.F_l_lamps_by.kp (b_l_lamps_by T) .nil pass0 (pa_cons (pe_call (ok_l_cell_at T) (hr.mono (by decide)) rfl T.mg_l_cell_at T.F_l_cell_at.kp (b_l_cell_at T) .nil pass0 (pa_cons (pv 0) (pa_cons (pe_int) (pa_nil)))) (pa_cons (pv 2) (pa_nil)))))
 (pss_cons (ps_join (ps_if (pt_cmpR op_eq (pe_op op_mod (pe_call (ok_l_cell_at T) (hr.mono (by decide)) rfl T.mg_l_cell_at T.F_l_cell_at.kp (b_l_cell_at T) .nil pass0 (pa_cons (pv 0) (pa_cons (pe_int) (pa_nil)))) (pe_int)) (pe_int) (nomark _))
 (pss_cons (ps_set (i := 5) sc_law.nd rfl (Or.inl rfl) (pe_op op_add (pe_int) (pe_op op_mod (pe_call (ok_l_cell_at T) (hr.mono (by decide)) rfl T.mg_l_cell_at T.F_l_cell_at.kp (b_l_cell_at T) .nil pass0 (pa_cons (pv 0) (pa_cons (pe_int) (pa_nil)))) (pv 2))))
 (pss_one (ps_for PassesOwn.never rfl (pi_range2 rfl T.m_range (pa_cons (pv 5) (pa_cons (pv 2) (pa_nil)))) (pg_name (i := 6) sc_law.nd rfl (Or.inl rfl))
 (pss_cons (ps_asg (pe_ix (ix_listK K) (pv 4) (pe_op op_sub (pv 6) (pv 5)) (fun _ _ => rfl)) (pg_sub (pv 4) (pv 6) set_list))
 (pss_one (ps_for PassesOwn.never rfl (pi_range1 rfl T.m_range (pa_cons (pv 1) (pa_nil))) (pg_name (i := 7) sc_law.nd rfl (Or.inl rfl))
 (pss_cons (ps_asg (pe_ix (ix_listK K) (pe_ix (ix_listK K) (pv 3) (pe_op op_sub (pv 6) (pv 5)) (fun _ _ => rfl)) (pv 7) (fun _ _ => rfl)) (pg_sub (pe_ix (ix_listK K) (pv 3) (pv 6) (fun _ _ => rfl)) (pv 7) set_list))
 (pss_one (ps_join (ps_if (PW.pt (pw_and (pt_cmpR op_lt (pe_op op_add (pe_ix (ix_listK K) (pe_ix (ix_listK K) (pv 3) (pv 6) (fun _ _ => rfl)) (pv 7) (fun _ _ => rfl)) (pv 5)) (pv 2) (nomark _)) (pw_and1 (pt_cmpR op_eq (pe_call (ok_l_draw T) (hr.mono (by decide)) rfl T.mg_l_draw T.F_l_draw.kp (b_l_draw T) .nil pass0 (pa_cons (pe_call (ok_l_cell_at T) (hr.mono (by decide)) rfl T.mg_l_cell_at T.F_l_cell_at.kp (b_l_cell_at T) .nil pass0 (pa_cons (pv 0) (pa_cons (pe_int) (pa_nil)))) (pa_cons (pe_op op_add (pv 6) (pv 7)) (pa_cons (pe_int) (pa_nil))))) (pe_int) (nomark _)))))
 (pss_one (ps_asg (pe_op op_add (pe_ix (ix_listK K) (pe_ix (ix_listK K) (pv 3) (pv 6) (fun _ _ => rfl)) (pv 7) (fun _ _ => rfl)) (pv 5)) (pg_sub (pe_ix (ix_listK K) (pv 3) (pv 6) (fun _ _ => rfl)) (pv 7) set_list)))
 (pss_nil)))))))))))
 (pss_nil)))
 (pss_cons (ps_join (ps_if (pt_cmpR op_eq (pe_op op_mod (pe_op op_fdiv (pe_call (ok_l_cell_at T) (hr.mono (by decide)) rfl T.mg_l_cell_at T.F_l_cell_at.kp (b_l_cell_at T) .nil pass0 (pa_cons (pv 0) (pa_cons (pe_int) (pa_nil)))) (pe_int)) (pe_int)) (pe_int) (nomark _))
 (pss_cons (ps_set (i := 1) sc_law.nd rfl (Or.inl rfl) (pe_int))
 (pss_cons (ps_set (i := 2) sc_law.nd rfl (Or.inr rfl) (pe_op op_add (pe_int) (pe_op op_mod (pe_call (ok_l_cell_at T) (hr.mono (by decide)) rfl T.mg_l_cell_at T.F_l_cell_at.kp (b_l_cell_at T) .nil pass0 (pa_cons (pv 0) (pa_cons (pe_int) (pa_nil)))) (pe_int))))
 (pss_cons (ps_setC (i := 3) (N := ["script", "doors", "rooms", "ways", "lamps", "first", "k", "door", "house", "turn", "found", "one", "other"]) (sc0 := (defScope s_law)) (N' := ["k", "rooms"]) (caps := [none, some 2]) (by exact ⟨rfl, by decide +kernel, by decide +kernel, by decide +kernel, rfl, rfl, by decide +kernel⟩) rfl sc_law.nd rfl (Or.inl rfl) (pi_range1 rfl T.m_range (pa_cons (pv 2) (pa_nil))) (fun _ _ _ _ _ _ => pg_name (i := 0) (show List.Nodup (["k", "rooms"] : List Str) from by decide +kernel) rfl (Or.inl rfl)) (fun _ _ _ _ _ _ => pe_lst (pa_cons (pe_op op_mod (pe_op op_add (pv 0) (pe_int)) (pv 1)) (pa_nil))))
 (pss_one (ps_setC (i := 4) (N := ["script", "doors", "rooms", "ways", "lamps", "first", "k", "door", "house", "turn", "found", "one", "other"]) (sc0 := (defScope s_law)) (N' := ["k", "rooms", "script"]) (caps := [none, some 2, some 0]) (by exact ⟨rfl, by decide +kernel, by decide +kernel, by decide +kernel, rfl, rfl, by decide +kernel⟩) rfl sc_law.nd rfl (Or.inl rfl) (pi_range1 rfl T.m_range (pa_cons (pv 2) (pa_nil))) (fun _ _ _ _ _ _ => pg_name (i := 0) (show List.Nodup (["k", "rooms", "script"] : List Str) from by decide +kernel) rfl (Or.inl rfl)) (fun _ _ _ _ _ _ => pe_or (pe_cmpR op_eq (pv 0) (pe_op op_sub (pv 1) (pe_int)) (nomark _)) (pe_one (pe_cmpR op_eq (pv 0) (pe_op op_mod (pe_call (ok_l_cell_at T) (hr.mono (by decide)) rfl T.mg_l_cell_at T.F_l_cell_at.kp (b_l_cell_at T) .nil pass0 (pa_cons (pv 2) (pa_cons (pe_int) (pa_nil)))) (pv 1)) (nomark _)))))))))
 (pss_nil)))
 (pss_cons (ps_set (i := 8) sc_law.nd rfl (Or.inl rfl) (pe_make T.mk_House (ok_House_init T) (hr.mono (by decide)) rfl T.mg_House (b_House_init T) .nil pass0 (pa_cons (pv 1) (pa_cons (pv 3) (pa_cons (pv 4) (pa_nil))))))
 (pss_cons (ps_for PassesOwn.never rfl (pi_range1 rfl T.m_range (pa_cons (pe_int) (pa_nil))) (pg_name (i := 9) sc_law.nd rfl (Or.inl rfl))
 (pss_cons (ps_set (i := 10) sc_law.nd rfl (Or.inr rfl) (pe_call (ok_fewest T) (hr.mono (by decide)) rfl T.mg_fewest T.F_fewest.kp (b_fewest T) .nil pass0 (pa_cons (pv 8) (pa_nil))))
 (pss_cons (ps_if (PW.pt (pw_or (pt_not (pt_val (pe_call (ok_l_sound T) (hr.mono (by decide)) rfl T.mg_l_sound T.F_l_sound.kp (b_l_sound T) .nil pass0 (pa_cons (pv 10) (pa_cons (pv 1) (pa_nil)))))) (pw_or1 (pt_not (pt_val (pe_call (ok_l_house_is T) (hr.mono (by decide)) rfl T.mg_l_house_is T.F_l_house_is.kp (b_l_house_is T) .nil pass0 (pa_cons (pv 8) (pa_cons (pv 1) (pa_cons (pv 3) (pa_cons (pv 4) (pa_nil)))))))))))
 (pss_one (ps_ret (pe_bl)))
 (pss_nil))
 (pss_cons (ps_if (pt_cmpR op_notN (pe_call (ok_l_part T) (hr.mono (by decide)) rfl T.mg_l_part T.F_l_part.kp (b_l_part T) .nil pass0 (pa_cons (pv 3) (pa_cons (pv 4) (pa_cons (pe_int) (pa_cons (pe_fldK K (pv 10) rfl) (pa_cons (pe_fldK K (pv 10) rfl) (pa_cons (pe_int) (pa_nil)))))))) (pe_non) (nomark _))
 (pss_one (ps_ret (pe_bl)))
 (pss_nil))
 (pss_cons (ps_for PassesOwn.never rfl (pi_range1 rfl T.m_range (pa_cons (pe_callB (call_len_seqK K) rfl T.m_len PySem.boot_len (pa_cons (pe_fldK K (pv 10) rfl) (pa_nil))) (pa_nil))) (pg_name (i := 11) sc_law.nd rfl (Or.inl rfl))
 (pss_one (ps_for PassesOwn.never rfl (pi_range1 rfl T.m_range (pa_cons (pv 11) (pa_nil))) (pg_name (i := 12) sc_law.nd rfl (Or.inl rfl))
 (pss_one (ps_if (pt_cmpR op_isN (pe_call (ok_l_part T) (hr.mono (by decide)) rfl T.mg_l_part T.F_l_part.kp (b_l_part T) .nil pass0 (pa_cons (pe_fldK K (pv 10) rfl) (pa_cons (pe_fldK K (pv 10) rfl) (pa_cons (pv 11) (pa_cons (pe_fldK K (pv 10) rfl) (pa_cons (pe_fldK K (pv 10) rfl) (pa_cons (pv 12) (pa_nil)))))))) (pe_non) (nomark _))
 (pss_one (ps_ret (pe_bl)))
 (pss_nil))))))
 (pss_one (ps_if (pt_cmpR (op_neIK K hr.units) (pe_comp (N := ["script", "doors", "rooms", "ways", "lamps", "first", "k", "door", "house", "turn", "found", "one", "other"]) (sc0 := (defScope s_law)) (N' := ["word", "found"]) (caps := [none, some 10]) (by exact ⟨rfl, by decide +kernel, by decide +kernel, by decide +kernel, rfl, rfl, by decide +kernel⟩) rfl (pi_listK K (pe_call (ok_l_least_words T) (hr.mono (by decide)) rfl T.mg_l_least_words T.F_l_least_words.kp (b_l_least_words T) .nil pass0 (pa_cons (pe_fldK K (pv 10) rfl) (pa_nil)))) (fun _ _ _ _ _ _ => pg_name (i := 0) (show List.Nodup (["word", "found"] : List Str) from by decide +kernel) rfl (Or.inl rfl)) (fun _ _ _ _ _ _ => pe_call (ok_l_walk T) (hr.mono (by decide)) rfl T.mg_l_walk T.F_l_walk.kp (b_l_walk T) .nil pass0 (pa_cons (pe_fldK K (pv 1) rfl) (pa_cons (pe_int) (pa_cons (pv 0) (pa_nil)))))) (pe_callTy (call_list_rng rfl) rfl T.m_list boot_list (pa_cons (pe_callTy call_rangeV rfl T.m_range boot_range (pa_cons (pe_callB (call_len_seqK K) rfl T.m_len PySem.boot_len (pa_cons (pe_fldK K (pv 10) rfl) (pa_nil))) (pa_nil))) (pa_nil))) (nomark _))
 (pss_one (ps_ret (pe_bl)))
 (pss_nil))))))))
 (pss_one (ps_ret (pe_bl)))))))))), ?_⟩
    repeat walk_at "sx"
    refine ⟨a, ns, 0, rfl, hS, by decide, ?_⟩
    repeat walk_at "sx"
    refine ⟨a, ns, 1, rfl, hS, by decide, ?_⟩
    repeat walk_at "sx"
    obtain ⟨d, hd⟩ : ∃ d, d = 1 + cellv ns 0 % 4 := ⟨_, rfl⟩
    have hd1 : 1 ≤ d := by omega
    have hd6 : d ≤ 6 := by omega
    rw [← hd]
    clear hd
    obtain ⟨r, hr⟩ : ∃ r, r = 1 + cellv ns 1 % 9 := ⟨_, rfl⟩
    have hr1 : 1 ≤ r := by omega
    have hr9 : r ≤ 9 := by omega
    rw [← hr]
    clear hr
    refine ⟨a, ns, 2, rfl, hS, by decide, ?_⟩
    repeat walk_at "sx"
    refine ⟨_, d, r, rfl, by omega, by omega, by omega, by omega, fun aw rs H1 hs1 M1 new1 => ?_⟩
    repeat walk_at "sx"
    have hW1 : Ways d (waysBy (cellv ns 2) d r) := waysBy_ok _ (by omega) (by omega)
    have hl1 : (waysBy (cellv ns 2) d r).length = r.toNat := waysBy_len _ _ _
    generalize waysBy (cellv ns 2) d r = rss at M1 hW1 hl1 ⊢
    have hrp : (0 : Int) < r := by omega
    refine ⟨a, ns, 3, rfl, sqL_same hs1 hS, by decide, ?_⟩
    repeat walk_at "sx"
    refine ⟨_, r, rfl, by omega, by omega, fun al hal => ?_⟩
    repeat walk_at "sx"
    have hLl : (lampsBy (cellv ns 3) r).length = r.toNat := lampsBy_len _ _
    have D2 : D8 H (upd H1 al (.lst ((lampsBy (cellv ns 3) r).map V.bl))) d r aw rs rss al (lampsBy (cellv ns 3) r) := by
      refine ⟨hs1.trans (Same.upd_new hal), M1.same (Same.upd_new hal), hW1, hl1, upd_same, hLl, fun b hb => ?_, fun z => ?_⟩
      · rcases List.mem_cons.mp hb with rfl | hb
        · exact hs1.free hal
        · exact new1 b hb
      · obtain ⟨o, e⟩ := M1.mem z
        rw [e] at hal; cases hal
    generalize upd H1 al (.lst ((lampsBy (cellv ns 3) r).map V.bl)) = H2 at D2 ⊢
    generalize lampsBy (cellv ns 3) r = ls at D2
    clear M1 hs1 new1 hal hW1 hl1 hLl
    -- a part of the house again
    refine r_join (fun σ' H' => ∃ (rss : List (List Int)) (ls : List Bool) (k5 k6 k7 : Option V), D8 H H' d r aw rs rss al ls ∧ σ' = [some (.ref a), some (.int d), some (.int r), some (.ref aw), some (.ref al), k5, k6, k7, none, none, none, none, none]) ?_ ?_
    · repeat walk_at "sx"
      refine ⟨a, ns, 4, rfl, sqL_same D2.same hS, by decide, ?_⟩
      repeat walk_at "sx"
      refine r_eq rfl ?_
      repeat walk_at "sx"
      refine r_ite (fun hc => ?_) (fun hc => ?_)
      · repeat walk_at "sx"
        refine ⟨a, ns, 5, rfl, sqL_same D2.same hS, by decide, ?_⟩
        repeat walk_at "sx"
        obtain ⟨f, hf⟩ : ∃ f, f = 1 + cellv ns 5 % r := ⟨_, rfl⟩
        rw [← hf]
        have hf1 : 1 ≤ f := by have := Int.emod_nonneg (cellv ns 5) (show r ≠ 0 by omega); omega
        have hfr : f ≤ r := by have := Int.emod_lt_of_pos (cellv ns 5) hrp; omega
        clear hf
        refine ⟨_, _, rfl, ⟨by omega, by omega, by omega, by omega⟩, ?_⟩
        refine for_range (fun i σ H' => ∃ (rss : List (List Int)) (ls : List Bool) (k6 k7 : Option V), D8 H H' d r aw rs rss al ls ∧ σ = [some (.ref a), some (.int d), some (.int r), some (.ref aw), some (.ref al), some (.int f), k6, k7, none, none, none, none, none]) ⟨rss, ls, _, _, D2, rfl⟩ (fun i σ H3 hi pp => ?_) (fun σ H3 pp => ?_)
        · clear D2
          obtain ⟨rss, ls, k6, k7, D, rfl⟩ := pp
          have hk0 : 0 ≤ f + (i : Int) := by omega
          have hk1 : f + (i : Int) < r := by omega
          have hkl : (f + (i : Int)).toNat < ls.length := by have := D.ll; omega
          have hil : i < ls.length := by have := D.ll; omega
          have ei : (f + (i : Int) - f) = (i : Int) := by omega
          repeat walk_at "sx"
          rw [ei]
          refine r_ixL (SqL.of D.la) (atI_nat (j := i) (by rw [List.getElem?_map, List.getElem?_eq_getElem hil]; rfl)) ?_
          repeat walk_at "sx"
          refine ⟨al, _, _, (f + (i : Int)).toNat, rfl, rfl, D.la, by unfold ixN; rw [if_pos hk0, if_pos (by rw [List.length_map]; have := D.ll; omega)], ?_⟩
          have D3 := D.lamp (f + (i : Int)).toNat ls[i]
          rw [List.map_set] at D3
          generalize upd H3 al (.lst ((ls.map V.bl).set (f + (i : Int)).toNat (V.bl ls[i]))) = H4 at D3 ⊢
          generalize ls.set (f + (i : Int)).toNat ls[i] = ls4 at D3
          clear D hkl hil
          repeat walk_at "sx"
          refine ⟨_, rfl, by omega, by omega, ?_⟩
          refine for_range (fun j σ H' => ∃ (rss : List (List Int)) (k7 : Option V), D8 H H' d r aw rs rss al ls4 ∧ σ = [some (.ref a), some (.int d), some (.int r), some (.ref aw), some (.ref al), some (.int f), some (.int (f + (i : Int))), k7, none, none, none, none, none]) ⟨rss, _, D3, rfl⟩ (fun j σ H5 hj pp => ?_) (fun σ H5 pp => ?_)
          · clear D3
            obtain ⟨rss, k7, D, rfl⟩ := pp
            have hkr : (f + (i : Int)).toNat < rss.length := by have := D.rl; omega
            have hir : i < rss.length := by have := D.rl; omega
            have e0 : (0 : Int) + (j : Int) = (j : Int) := by omega
            rw [e0]
            obtain ⟨b1, c1, c2, c3⟩ := D.M.get (List.getElem?_eq_getElem hir)
            obtain ⟨l1, x1⟩ := D.W.row _ (List.getElem_mem hir)
            have hj1 : j < rss[i].length := by omega
            obtain ⟨v0, v1⟩ := x1 _ (List.getElem_mem hj1)
            have hgk := List.getElem?_eq_getElem hkr
            obtain ⟨b2, g1, g2, g3⟩ := D.M.get hgk
            obtain ⟨l2, x2⟩ := D.W.row _ (List.getElem_mem hkr)
            generalize rss[(f + (i : Int)).toNat] = row at hgk g3 l2 x2
            have hj2 : j < row.length := by omega
            have hrl := D.rl
            repeat walk_at "sx"
            rw [ei]
            refine r_ixL (SqL.of D.M.top) (atI_nat (j := i) c2) ?_
            repeat walk_at "sx"
            refine r_ixL (SqL.of c3) (atI_nat (j := j) (int_map_get (List.getElem?_eq_getElem hj1))) ?_
            repeat walk_at "sx"
            refine r_ixL (SqL.of D.M.top) (atI_get' hk0 g2) ?_
            repeat walk_at "sx"
            refine ⟨b2, _, _, j, rfl, rfl, g3, by unfold ixN; rw [if_pos (by omega), if_pos (by rw [List.length_map]; omega)]; simp, ?_⟩
            have D4 := D.cell g1 hgk j (v := rss[i][j]) v0 (by omega)
            rw [List.map_set] at D4
            generalize rss[i][j] = v at D4 v0 v1 ⊢
            generalize upd H5 b2 (.lst ((row.map V.int).set j (.int v))) = H6 at D4 ⊢
            have hg6 : (rss.set (f + (i : Int)).toNat (row.set j v))[(f + (i : Int)).toNat]? = some (row.set j v) := by rw [List.getElem?_set_self hkr]
            generalize rss.set (f + (i : Int)).toNat (row.set j v) = rss6 at D4 hg6
            clear D c3 g3 hgk
            obtain ⟨b3, p1, p2, p3⟩ := D4.M.get hg6
            have hvj : (row.set j v)[j]? = some v := by rw [List.getElem?_set_self hj2]
            have hl6 : j < (row.set j v).length := by rw [List.length_set]; exact hj2
            generalize row.set j v = row6 at hg6 p3 hvj hl6
            repeat walk_at "sx"
            refine r_join (fun σ' H' => ∃ (rss : List (List Int)) (k7 : Option V), D8 H H' d r aw rs rss al ls4 ∧ σ' = [some (.ref a), some (.int d), some (.int r), some (.ref aw), some (.ref al), some (.int f), some (.int (f + (i : Int))), k7, none, none, none, none, none]) ?_ (fun σ' H' z => z)
            repeat walk_at "sx"
            refine r_ixL (SqL.of D4.M.top) (atI_get' hk0 p2) ?_
            repeat walk_at "sx"
            refine r_ixL (SqL.of p3) (atI_nat (j := j) (int_map_get hvj)) ?_
            repeat walk_at "sx"
            refine r_ite (fun hlt => ?_) (fun hlt => ?_)
            · have hlt : v + f < r := by simpa using hlt
              repeat walk_at "sx"
              refine ⟨a, ns, 6, rfl, sqL_same D4.same hS, by decide, ?_⟩
              repeat walk_at "sx"
              refine ⟨_, _, _, rfl, by decide, ?_⟩
              repeat walk_at "sx"
              refine r_eq rfl ?_
              repeat walk_at "sx"
              refine r_ite (fun hdr => ?_) (fun hdr => ?_)
              · repeat walk_at "sx"
                refine r_ixL (SqL.of D4.M.top) (atI_get' hk0 p2) ?_
                repeat walk_at "sx"
                refine r_ixL (SqL.of p3) (atI_nat (j := j) (int_map_get hvj)) ?_
                repeat walk_at "sx"
                refine r_ixL (SqL.of D4.M.top) (atI_get' hk0 p2) ?_
                repeat walk_at "sx"
                refine ⟨b3, _, _, j, rfl, rfl, p3, by unfold ixN; rw [if_pos (by omega), if_pos (by rw [List.length_map]; omega)]; simp, ?_⟩
                have D7 := D4.cell p1 hg6 j (v := v + f) (by omega) hlt
                rw [List.map_set] at D7
                exact ⟨_, _, D7, rfl⟩
              · repeat walk_at "sx"
                exact ⟨_, _, D4, rfl⟩
            · repeat walk_at "sx"
              refine r_iteN rfl ?_
              repeat walk_at "sx"
              exact ⟨_, _, D4, rfl⟩
          · obtain ⟨rss, k7, D, rfl⟩ := pp
            exact ⟨rss, ls4, _, _, D, rfl⟩
        · obtain ⟨rss, ls, k6, k7, D, rfl⟩ := pp
          exact ⟨rss, ls, _, _, _, D, rfl⟩
      · repeat walk_at "sx"
        exact ⟨rss, ls, _, _, _, D2, rfl⟩
    clear D2
    rintro σ' H2 ⟨rss, ls, k5, k6, k7, D2, rfl⟩
    have s2 := D2.same
    repeat walk_at "sx"
    -- a ring
    refine r_join (fun σ' H' => Same H H' ∧ ∃ (d r : Int) (aw : Addr) (rs : List Addr) (rss : List (List Int)) (al : Addr) (ls : List Bool) (k5 k6 k7 : Option V), 1 ≤ d ∧ d ≤ 6 ∧ 1 ≤ r ∧ r ≤ 40 ∧ Mat H' aw rs rss ∧ Ways d rss ∧ rss.length = r.toNat ∧ H' al = some (.lst (ls.map V.bl)) ∧ ls.length = r.toNat ∧ σ' = [some (.ref a), some (.int d), some (.int r), some (.ref aw), some (.ref al), k5, k6, k7, none, none, none, none, none]) ?_ ?_
    · repeat walk_at "sx"
      refine ⟨a, ns, 4, rfl, sqL_same s2 hS, by decide, ?_⟩
      repeat walk_at "sx"
      refine r_eq rfl ?_
      repeat walk_at "sx"
      refine r_ite (fun hc => ?_) (fun hc => ?_)
      · repeat walk_at "sx"
        refine ⟨a, ns, 5, rfl, sqL_same s2 hS, by decide, ?_⟩
        repeat walk_at "sx"
        obtain ⟨r9, hr9'⟩ : ∃ r9, r9 = 10 + cellv ns 5 % 15 := ⟨_, rfl⟩
        rw [← hr9']
        have hrp9 : (0 : Int) < r9 := by omega
        refine ⟨_, rfl, by omega, by omega, ?_⟩
        refine comp_range (fun acc i ys H' => ∃ rs', ys = rs'.map V.ref ∧ rs'.length = i ∧ Grown H2 H' acc rs' (fun k => [((k : Int) + 1) % r9])) (fun acc hacc => ⟨[], rfl, rfl, Grown.start hacc⟩) (fun acc i ys H' hacc hi p => ?_) (fun acc ys H' hacc p => ?_)
        · obtain ⟨rs', rfl, hlen', G⟩ := p
          have e0 : (0 : Int) + (i : Int) = (i : Int) := by omega
          rw [e0]
          repeat walk_at "sx"
          refine ⟨Wk.set rfl, ?_⟩
          repeat walk_at "sx"
          refine ⟨by show 1 ≤ sizeLine; decide, fun acc2 h2 => ?_⟩
          have hla : acc ≠ acc2 := fun z => G.fresh h2 (by rw [z]; exact List.mem_cons_self)
          refine ⟨by rw [upd_ne hla]; exact G.top, small1000 (by simp; omega), rs' ++ [acc2], by simp, by simp [hlen'], ?_⟩
          have := G.snoc h2
          rw [hlen'] at this
          exact this
        · obtain ⟨rs', rfl, hlen', G⟩ := p
          have Mg := G.mat
          have s3 : Same H H' := s2.trans G.same
          have hWg : Ways 1 ((List.range rs'.length).map (fun k => [(((k : Nat) : Int) + 1) % r9])) := by
            refine ways_map _ _ hlen' hrp9 fun k hk => ⟨rfl, fun x hx => ?_⟩
            rw [List.mem_singleton.mp hx]
            exact ⟨Int.emod_nonneg _ (by omega), Int.emod_lt_of_pos _ hrp9⟩
          have hlg : ((List.range rs'.length).map (fun k => [(((k : Nat) : Int) + 1) % r9])).length = r9.toNat := by simp [hlen']
          generalize ((List.range rs'.length).map (fun k => [(((k : Nat) : Int) + 1) % r9])) = rss3 at Mg hWg hlg
          clear G hlen'
          repeat walk_at "sx"
          refine ⟨_, rfl, by omega, by omega, ?_⟩
          refine comp_range (fun acc i ys H3 => ∃ zs : List Bool, ys = zs.map V.bl ∧ zs.length = i ∧ H3 = upd H' acc (.lst ys)) (fun acc hacc => ⟨[], rfl, rfl, rfl⟩) (fun acc2 i ys H3 hacc2 hi p => ?_) (fun acc2 ys H3 hacc2 p => ?_)
          · obtain ⟨zs, rfl, hzl, rfl⟩ := p
            have e0 : (0 : Int) + (i : Int) = (i : Int) := by omega
            rw [e0]
            repeat walk_at "sx"
            refine ⟨Wk.set rfl, ?_⟩
            repeat walk_at "sx"
            refine r_eq rfl ?_
            have fin : ∀ v : Bool, ∃ zs' : List Bool, zs.map V.bl ++ [V.bl v] = zs'.map V.bl ∧ zs'.length = i + 1 ∧ upd (upd H' acc2 (.lst (zs.map V.bl))) acc2 (.lst (zs.map V.bl ++ [V.bl v])) = upd H' acc2 (.lst (zs.map V.bl ++ [V.bl v])) := fun v => ⟨zs ++ [v], by simp, by simp [hzl], upd_upd⟩
            repeat walk_at "sx"
            refine r_ite (fun hc => ?_) (fun hc => ?_)
            · exact ⟨upd_same, small1000 (by simp; omega), fin true⟩
            · repeat walk_at "sx"
              refine ⟨a, ns, 6, rfl, sqL_same (s3.trans (Same.upd_new hacc2)) hS, by decide, ?_⟩
              repeat walk_at "sx"
              refine r_eq rfl ?_
              exact ⟨upd_same, small1000 (by simp; omega), fin _⟩
          · obtain ⟨zs, rfl, hzl, rfl⟩ := p
            repeat walk_at "sx"
            exact ⟨s3.trans (Same.upd_new hacc2), 1, r9, acc, rs', rss3, acc2, zs, _, _, _, by omega, by omega, by omega, by omega, Mg.same (Same.upd_new hacc2), hWg, hlg, upd_same, hzl, rfl⟩
      · repeat walk_at "sx"
        exact ⟨s2, d, r, aw, rs, rss, al, ls, _, _, _, by omega, by omega, by omega, by omega, D2.M, D2.W, D2.rl, D2.la, D2.ll, rfl⟩
    clear D2 s2 hd1 hd6 hr1 hr9 hrp
    rintro σ' H3 ⟨hs3, d, r, aw, rs, rss, al, ls, k5, k6, k7, hd1, hd6, hr1, hr2, M3, Wy, hl3, al3, hLl, rfl⟩
    have h0 : 0 < rss.length := by omega
    have hrp : (0 : Int) < r := by omega
    have Vd : Valid d rss ls := { row := Wy.row, d1 := hd1, d6 := hd6, r1 := by omega, r400 := by omega, ll := by omega }
    repeat walk_at "sx"
    intro hp hdx e1 e2 e3
    have sm : Same H3 (upd (upd H3 hdx (.own hp)) hp (.ins t.C_House hdx [])) := (Same.upd_new e2).trans (Same.upd_new (by rw [upd_ne (Ne.symm e3)]; exact e1))
    refine ⟨hp, hdx, d, aw, rs, rss, al, ls, rfl, upd_same, M3.same sm, SqL.of (sm _ _ al3), Vd, fun H4 aw4 rs4 al4 hh4 keep4 new4 => ⟨rfl, ?_⟩⟩
    have hs4 : Same H3 H4 := fun b o e => keep4 b o (sm b o e) (ne_of_none e e1)
    clear keep4 new4 sm e1 e2 e3
    have M4 := M3.same hs4
    have al4' := hs4 _ _ al3
    have O := trim_ord Wy h0
    repeat walk_at "sx"
    refine ⟨_, rfl, by decide, by decide, ?_⟩
    refine for_range (fun i σ H' => ∃ (k9 k10 k11 k12 k6 : Option V), Same H4 H' ∧ σ = [some (.ref a), some (.int d), some (.int r), some (.ref aw), some (.ref al), k5, k6, k7, some (.ref hp), k9, k10, k11, k12]) ⟨_, _, _, _, _, fun _ _ e => e, rfl⟩ (fun i σ H5 hi pp => ?_) (fun σ H5 pp => ?_)
    · obtain ⟨k9, k10, k11, k12, k6, s5, rfl⟩ := pp
      repeat walk_at "sx"
      refine ⟨hp, d, aw4, rs4, rss, al4, ls, rfl, hh4.same s5, Vd, fun H6 gp gw gs gl ks m s6 Qk hg => ?_⟩
      have hmle : m ≤ rss.length := Nat.le_trans Qk.le (trim_le Vd)
      have Rd := Red.of Qk O
      have lang : ∀ w, WordOk d w → lampI ls (walkI rss 0 w) = lampI (quotL (trimL rss ls) ks m) (walkI (quotR (trimR rss) ks m) 0 w) := fun w ok => by rw [Qk.lang ok, trim_lang Wy h0 ok]
      have hml := quotR_len (trimR rss) ks m
      generalize quotR (trimR rss) ks m = R at Rd lang hml hg
      generalize quotL (trimL rss ls) ks m = RL at Rd lang hg
      generalize (fun c : Nat => lwR rss (ks.idxOf (c : Int))) = LW at Rd
      clear Qk
      have hR0 := Rd.n0
      have VR : Valid d R RL := { row := Rd.W.row, d1 := hd1, d6 := hd6, r1 := by omega, r400 := by omega, ll := Rd.hl }
      have hsz : rss.length * R.length ≤ 100000 := by
        have h1 : rss.length ≤ 40 := by omega
        have h2 : R.length ≤ 40 := by omega
        have := Nat.mul_le_mul h1 h2
        omega
      have hsz2 : R.length * R.length ≤ 100000 := by
        have h2 : R.length ≤ 40 := by omega
        have := Nat.mul_le_mul h2 h2
        omega
      have s46 : Same H4 H6 := s5.trans s6
      clear s5 s6
      repeat walk_at "sx"
      refine ⟨gp, d, gw, gs, R, gl, RL, rfl, hg, VR, fun H7 s7 => ?_⟩
      have s47 := s46.trans s7
      have hg7 := hg.same s7
      clear s46 s7 hg
      repeat walk_at "sx"
      refine r_iteN rfl ?_
      repeat walk_at "sx"
      refine ⟨hp, d, aw4, rs4, rss, al4, ls, aw, rs, al, rfl, hh4.same s47, M4.same s47, SqL.of (s47 _ _ al4'), by omega, ?_⟩
      repeat walk_at "sx"
      refine r_iteN rfl ?_
      repeat walk_at "sx"
      obtain ⟨gx, go⟩ := hg7.ob
      refine ⟨_, rfl, gp, _, gx, _, _, rfl, go, T.cl_House, T.na_House_ways, hfs_ways _ _ _, ?_⟩
      repeat walk_at "sx"
      refine ⟨_, rfl, gp, _, gx, _, _, rfl, go, T.cl_House, T.na_House_lamps, hfs_lamps _ _ _, ?_⟩
      repeat walk_at "sx"
      refine ⟨aw, rs, rss, al, ls, 0, gw, gs, R, gl, RL, 0, d, rfl, M4.same s47, SqL.of (s47 _ _ al4'), hg7.ways, SqL.of hg7.lamps, ⟨Wy, Rd.W, Vd.ll, Rd.hl, by decide, by omega, by decide, by omega, hd1, hd6, hsz⟩, fun H8 s8 _ => ?_, fun H8 p w s8 _ _ pt => absurd (lang w pt.ok) pt.un⟩
      have s48 := s47.trans s8
      have hg8 := hg7.same s8
      clear s47 s8 hg7 go
      repeat walk_at "sx"
      refine ⟨rfl, ?_⟩
      repeat walk_at "sx"
      refine r_iteN (by simp) ?_
      obtain ⟨gx, go⟩ := hg8.ob
      repeat walk_at "sx"
      refine ⟨_, rfl, gp, _, gx, _, _, rfl, go, T.cl_House, T.na_House_ways, hfs_ways _ _ _, ?_⟩
      repeat walk_at "sx"
      refine ⟨gw, _, rfl, .inl (SqL.of hg8.ways.top), ?_⟩
      rw [List.length_map, hg8.ways.len]
      refine ⟨_, rfl, by omega, by omega, ?_⟩
      refine for_range (fun one σ H' => ∃ (k11 k12 : Option V), Same H8 H' ∧ σ = [some (.ref a), some (.int d), some (.int r), some (.ref aw), some (.ref al), k5, k6, k7, some (.ref hp), some (.int (0 + (i : Int))), some (.ref gp), k11, k12]) ⟨_, _, fun _ _ e => e, rfl⟩ (fun one σ H9 hone pp => ?_) (fun σ H9 pp => ?_)
      · obtain ⟨k11, k12, s9, rfl⟩ := pp
        have hone : one < R.length := by omega
        repeat walk_at "sx"
        refine ⟨_, rfl, by omega, by omega, ?_⟩
        refine for_range (fun oth σ H' => ∃ (k12 : Option V), Same H8 H' ∧ σ = [some (.ref a), some (.int d), some (.int r), some (.ref aw), some (.ref al), k5, k6, k7, some (.ref hp), some (.int (0 + (i : Int))), some (.ref gp), some (.int (0 + (one : Int))), k12]) ⟨_, s9, rfl⟩ (fun oth σ H10 hoth pp => ?_) (fun σ H10 pp => ?_)
        · obtain ⟨k12, s10, rfl⟩ := pp
          have hoth : oth < one := by omega
          have hg10 := hg8.same s10
          obtain ⟨gx2, go2⟩ := hg10.ob
          repeat walk_at "sx"
          refine ⟨_, rfl, gp, _, gx2, _, _, rfl, go2, T.cl_House, T.na_House_ways, hfs_ways _ _ _, ?_⟩
          repeat walk_at "sx"
          refine ⟨_, rfl, gp, _, gx2, _, _, rfl, go2, T.cl_House, T.na_House_lamps, hfs_lamps _ _ _, ?_⟩
          repeat walk_at "sx"
          refine ⟨_, rfl, gp, _, gx2, _, _, rfl, go2, T.cl_House, T.na_House_ways, hfs_ways _ _ _, ?_⟩
          repeat walk_at "sx"
          refine ⟨_, rfl, gp, _, gx2, _, _, rfl, go2, T.cl_House, T.na_House_lamps, hfs_lamps _ _ _, ?_⟩
          repeat walk_at "sx"
          refine ⟨gw, gs, R, gl, RL, 0 + (one : Int), gw, gs, R, gl, RL, 0 + (oth : Int), d, rfl, hg10.ways, SqL.of hg10.lamps, hg10.ways, SqL.of hg10.lamps, ⟨Rd.W, Rd.W, Rd.hl, Rd.hl, by omega, by omega, by omega, by omega, hd1, hd6, hsz2⟩, fun H11 s11 al' => ?_, fun H11 p w s11 _ _ pt => ?_⟩
          · exfalso
            rw [Int.zero_add, Int.zero_add] at al'
            have := Rd.ap hone (by omega) al'
            omega
          · repeat walk_at "sx"
            refine ⟨rfl, ?_⟩
            repeat walk_at "sx"
            refine r_iteN (by simp) ?_
            repeat walk_at "sx"
            exact ⟨_, s10.trans s11, rfl⟩
        · obtain ⟨k12, s10, rfl⟩ := pp
          exact ⟨_, _, s10, rfl⟩
      obtain ⟨k11, k12, s9, rfl⟩ := pp
      have hg9 := hg8.same s9
      have s49 := s48.trans s9
      clear s48 s9 hg8 go
      obtain ⟨gx, go⟩ := hg9.ob
      have eb := Rd.O.bfs Rd.W hR0
      repeat walk_at "sx"
      refine ⟨_, rfl, gp, _, gx, _, _, rfl, go, T.cl_House, T.na_House_ways, hfs_ways _ _ _, ?_⟩
      repeat walk_at "sx"
      refine ⟨gw, gs, R, d, rfl, hg9.ways, Rd.W, hR0, by omega, hd1, hd6, fun H10 wa wA s10 hwa LA new10 => ?_⟩
      rw [eb, List.map_map] at LA
      have hg10 := hg9.same s10
      refine ⟨wa, rfl, ⟨_, SqL.of hwa⟩, ?_⟩
      have hwl : wA.length = R.length := by rw [LA.len]; simp
      refine comp_list (xs := wA.map V.ref) (fun acc j ys H' => ys = ((List.range j).map fun (c : Nat) => (c : Int)).map V.int ∧ H' = upd H10 acc (.lst ys)) (fun acc hacc => ⟨rfl, rfl⟩) (fun acc j ys H' hacc _ pp => by rw [pp.2]; exact SqL.of (by rw [upd_ne (ne_of_none hwa hacc)]; exact hwa)) (fun acc j x ys H' hacc hx pp => ?_) (fun acc ys H' hacc pp => ?_)
      · obtain ⟨rfl, rfl⟩ := pp
        have hx0 := ref_map_inv hx
        clear hx
        obtain ⟨b, rfl, hx⟩ := hx0
        have hj : j < R.length := by rw [← hwl]; exact (List.getElem?_eq_some_iff.mp hx).1
        obtain ⟨ok, wk⟩ := Rd.O.ok hj
        have hb := LA.row j b (LW j) hx (by rw [List.getElem?_map, List.getElem?_range hj]; rfl)
        have s11 : Same H10 (upd H10 acc (.lst (((List.range j).map fun (c : Nat) => (c : Int)).map V.int))) := Same.upd_new hacc
        have hg11 := hg10.same s11
        obtain ⟨gx2, go2⟩ := hg11.ob
        repeat walk_at "sx"
        refine ⟨Wk.set rfl, ?_⟩
        repeat walk_at "sx"
        refine ⟨_, rfl, gp, _, gx2, _, _, rfl, go2, T.cl_House, T.na_House_ways, hfs_ways _ _ _, ?_⟩
        repeat walk_at "sx"
        refine ⟨gw, gs, R, d, 0, b, LW j, rfl, hg11.ways, Rd.W, SqL.of (s11 _ _ hb), ok, by decide, by omega, ?_⟩
        rw [wk]
        refine ⟨upd_same, small1000 (by simp; omega), ?_, ?_⟩
        · rw [List.range_succ]; simp
        · rw [upd_upd]
      obtain ⟨rfl, rfl⟩ := pp
      rw [List.length_map, hwl]
      have s11 : Same H10 (upd H10 acc (.lst (((List.range R.length).map fun (c : Nat) => (c : Int)).map V.int))) := Same.upd_new hacc
      have a11 : (upd H10 acc (.lst (((List.range R.length).map fun (c : Nat) => (c : Int)).map V.int))) acc = some (.lst (((List.range R.length).map fun (c : Nat) => (c : Int)).map V.int)) := upd_same
      generalize upd H10 acc (.lst (((List.range R.length).map fun (c : Nat) => (c : Int)).map V.int)) = H11 at s11 a11 ⊢
      have hg11 := hg10.same s11
      obtain ⟨gx2, go2⟩ := hg11.ob
      repeat walk_at "sx"
      refine ⟨_, rfl, gp, _, gx2, _, _, rfl, go2, T.cl_House, T.na_House_ways, hfs_ways _ _ _, ?_⟩
      repeat walk_at "sx"
      refine ⟨gw, _, rfl, .inl (SqL.of hg11.ways.top), ?_⟩
      rw [List.length_map, hg11.ways.len]
      repeat walk_at "sx"
      refine ⟨_, rfl, fun pr hpr => ?_⟩
      have s12 : Same H11 (upd H11 pr (.rng 0 (R.length : Int))) := Same.upd_new hpr
      have p12 : (upd H11 pr (.rng 0 (R.length : Int))) pr = some (.rng 0 (R.length : Int)) := upd_same
      generalize upd H11 pr (.rng 0 (R.length : Int)) = H12 at s12 p12 ⊢
      repeat walk_at "sx"
      refine ⟨pr, _, rfl, p12, by omega, by omega, fun l hl => ?_⟩
      rw [Int.toNat_natCast]
      have e13 : ((List.range R.length).map fun (i : Nat) => V.int (i : Int)) = ((List.range R.length).map fun (c : Nat) => (c : Int)).map V.int := by rw [List.map_map]; rfl
      rw [e13]
      have s13 : Same H12 (upd H12 l (.lst (((List.range R.length).map fun (c : Nat) => (c : Int)).map V.int))) := Same.upd_new hl
      refine ⟨acc, l, _, _, rfl, rfl, SqL.of (s13 _ _ (s12 _ _ a11)), SqL.of upd_same, ?_⟩
      generalize upd H12 l (.lst (((List.range R.length).map fun (c : Nat) => (c : Int)).map V.int)) = H13 at s13 ⊢
      rw [decide_eq_true rfl]
      repeat walk_at "sx"
      refine r_iteN rfl ?_
      repeat walk_at "sx"
      exact ⟨_, _, _, _, _, s49.trans (s10.trans (s11.trans (s12.trans s13))), rfl⟩
    · obtain ⟨k9, k10, k11, k12, k6, s5, rfl⟩ := pp
      repeat walk_at "sx"
      exact q H5
end
theorem txt_mk {K : PySem.W.Frag} {h : Heap} {mg : Str → Option Value} (X : K.In h) (G : h.Ns mainGlobals mg) {tk_MOST_DOORS : Tok} {tk_MOST_ROOMS : Tok} {C_House : Addr} {f_check_doors : Addr} {oc_check_doors kV_check_doors dc_check_doors pm_check_doors cd_check_doors ct_check_doors : Value} {od_check_doors an_check_doors : Option Addr} {sl_check_doors : Array (Option Value)} {f_check_house : Addr} {oc_check_house kV_check_house dc_check_house pm_check_house cd_check_house ct_check_house : Value} {od_check_house an_check_house : Option Addr} {sl_check_house : Array (Option Value)} {f_House_init : Addr} {oc_House_init kV_House_init dc_House_init pm_House_init cd_House_init ct_House_init : Value} {od_House_init an_House_init : Option Addr} {sl_House_init : Array (Option Value)} {f_House_rooms : Addr} {oc_House_rooms kV_House_rooms dc_House_rooms pm_House_rooms cd_House_rooms ct_House_rooms : Value} {od_House_rooms an_House_rooms : Option Addr} {sl_House_rooms : Array (Option Value)} {f_words_by_room : Addr} {oc_words_by_room kV_words_by_room dc_words_by_room pm_words_by_room cd_words_by_room ct_words_by_room : Value} {od_words_by_room an_words_by_room : Option Addr} {sl_words_by_room : Array (Option Value)} {f_reached : Addr} {oc_reached kV_reached dc_reached pm_reached cd_reached ct_reached : Value} {od_reached an_reached : Option Addr} {sl_reached : Array (Option Value)} {f_with_rooms : Addr} {oc_with_rooms kV_with_rooms dc_with_rooms pm_with_rooms cd_with_rooms ct_with_rooms : Value} {od_with_rooms an_with_rooms : Option Addr} {sl_with_rooms : Array (Option Value)} {f_without_unreached : Addr} {oc_without_unreached kV_without_unreached dc_without_unreached pm_without_unreached cd_without_unreached ct_without_unreached : Value} {od_without_unreached an_without_unreached : Option Addr} {sl_without_unreached : Array (Option Value)} {f_numbered : Addr} {oc_numbered kV_numbered dc_numbered pm_numbered cd_numbered ct_numbered : Value} {od_numbered an_numbered : Option Addr} {sl_numbered : Array (Option Value)} {f_parted_further : Addr} {oc_parted_further kV_parted_further dc_parted_further pm_parted_further cd_parted_further ct_parted_further : Value} {od_parted_further an_parted_further : Option Addr} {sl_parted_further : Array (Option Value)} {f_kinds_of_rooms : Addr} {oc_kinds_of_rooms kV_kinds_of_rooms dc_kinds_of_rooms pm_kinds_of_rooms cd_kinds_of_rooms ct_kinds_of_rooms : Value} {od_kinds_of_rooms an_kinds_of_rooms : Option Addr} {sl_kinds_of_rooms : Array (Option Value)} {f_fewest : Addr} {oc_fewest kV_fewest dc_fewest pm_fewest cd_fewest ct_fewest : Value} {od_fewest an_fewest : Option Addr} {sl_fewest : Array (Option Value)} {f_l_cell_at : Addr} {oc_l_cell_at kV_l_cell_at dc_l_cell_at pm_l_cell_at cd_l_cell_at ct_l_cell_at : Value} {od_l_cell_at an_l_cell_at : Option Addr} {sl_l_cell_at : Array (Option Value)} {f_l_draw : Addr} {oc_l_draw kV_l_draw dc_l_draw pm_l_draw cd_l_draw ct_l_draw : Value} {od_l_draw an_l_draw : Option Addr} {sl_l_draw : Array (Option Value)} {f_l_ways_by : Addr} {oc_l_ways_by kV_l_ways_by dc_l_ways_by pm_l_ways_by cd_l_ways_by ct_l_ways_by : Value} {od_l_ways_by an_l_ways_by : Option Addr} {sl_l_ways_by : Array (Option Value)} {f_l_lamps_by : Addr} {oc_l_lamps_by kV_l_lamps_by dc_l_lamps_by pm_l_lamps_by cd_l_lamps_by ct_l_lamps_by : Value} {od_l_lamps_by an_l_lamps_by : Option Addr} {sl_l_lamps_by : Array (Option Value)} {f_l_walk : Addr} {oc_l_walk kV_l_walk dc_l_walk pm_l_walk cd_l_walk ct_l_walk : Value} {od_l_walk an_l_walk : Option Addr} {sl_l_walk : Array (Option Value)} {f_l_whole : Addr} {oc_l_whole kV_l_whole dc_l_whole pm_l_whole cd_l_whole ct_l_whole : Value} {od_l_whole an_l_whole : Option Addr} {sl_l_whole : Array (Option Value)} {f_l_numbers : Addr} {oc_l_numbers kV_l_numbers dc_l_numbers pm_l_numbers cd_l_numbers ct_l_numbers : Value} {od_l_numbers an_l_numbers : Option Addr} {sl_l_numbers : Array (Option Value)} {f_l_is_word : Addr} {oc_l_is_word kV_l_is_word dc_l_is_word pm_l_is_word cd_l_is_word ct_l_is_word : Value} {od_l_is_word an_l_is_word : Option Addr} {sl_l_is_word : Array (Option Value)} {f_l_truths : Addr} {oc_l_truths kV_l_truths dc_l_truths pm_l_truths cd_l_truths ct_l_truths : Value} {od_l_truths an_l_truths : Option Addr} {sl_l_truths : Array (Option Value)} {f_l_house_is : Addr} {oc_l_house_is kV_l_house_is dc_l_house_is pm_l_house_is cd_l_house_is ct_l_house_is : Value} {od_l_house_is an_l_house_is : Option Addr} {sl_l_house_is : Array (Option Value)} {f_l_sound : Addr} {oc_l_sound kV_l_sound dc_l_sound pm_l_sound cd_l_sound ct_l_sound : Value} {od_l_sound an_l_sound : Option Addr} {sl_l_sound : Array (Option Value)} {f_l_part : Addr} {oc_l_part kV_l_part dc_l_part pm_l_part cd_l_part ct_l_part : Value} {od_l_part an_l_part : Option Addr} {sl_l_part : Array (Option Value)} {f_l_least_words : Addr} {oc_l_least_words kV_l_least_words dc_l_least_words pm_l_least_words cd_l_least_words ct_l_least_words : Value} {od_l_least_words an_l_least_words : Option Addr} {sl_l_least_words : Array (Option Value)} {f_law : Addr} {oc_law kV_law dc_law pm_law cd_law ct_law : Value} {od_law an_law : Option Addr} {sl_law : Array (Option Value)}
    (z_len : PySem.W.nsIn K mainGlobals "len" = some none)
    (z_range : PySem.W.nsIn K mainGlobals "range" = some none)
    (z_isinstance : PySem.W.nsIn K mainGlobals "isinstance" = some none)
    (z_list : PySem.W.nsIn K mainGlobals "list" = some none)
    (z_int : PySem.W.nsIn K mainGlobals "int" = some none)
    (z_bool : PySem.W.nsIn K mainGlobals "bool" = some none)
    (z_enumerate : PySem.W.nsIn K mainGlobals "enumerate" = some none)
    (z_max : PySem.W.nsIn K mainGlobals "max" = some none)
    (z_tuple : PySem.W.nsIn K mainGlobals "tuple" = some none)
    (z_ValueError : PySem.W.nsIn K mainGlobals "ValueError" = some none)
    (c_MOST_DOORS : PySem.W.nsIn K mainGlobals "MOST_DOORS" = some (some (.int 6 tk_MOST_DOORS)))
    (c_MOST_ROOMS : PySem.W.nsIn K mainGlobals "MOST_ROOMS" = some (some (.int 400 tk_MOST_ROOMS)))
    (a_House : PySem.W.nsIn K mainGlobals "House" = some (some (.ref C_House)))
    (pg_House : PySem.W.plainGet K C_House Str.empty = true)
    (hd_House : PySem.W.hasDictIn K C_House = true)
    (po_House : PySem.W.plainOver K C_House = true)
    (sa_House : PySem.W.findIn K (.ref C_House) "__setattr__" = some (some (.builtin "object.__setattr__")))
    (mk_House : PySem.W.makesIn K C_House = true)
    (kc_House : PySem.W.keepIn K (.ref C_House) = true)
    (tc_House : PySem.W.findIn K (.ref C_House) "__class__" = some (some (.builtin "object.__class__")))
    (tm_House : PySem.W.mroIn K C_House (.type "object") = some true)
    (n_House_doors : PySem.W.findIn K (.ref C_House) "doors" = some none)
    (n_House_ways : PySem.W.findIn K (.ref C_House) "ways" = some none)
    (n_House_lamps : PySem.W.findIn K (.ref C_House) "lamps" = some none)
    (tg : PySem.W.specialIn K (.builtin "object.__class__") "__get__" = some (some (.builtin "getset_descriptor.__get__")))
    (tt : PySem.W.takesIn K (.builtin "object.__class__") = some true)
    (a_check_doors : PySem.W.nsIn K mainGlobals "check_doors" = some (some (.ref f_check_doors)))
    (l_check_doors : K.lookup f_check_doors = some ⟨oc_check_doors, od_check_doors, .func (PySem.W.fnOf "check_doors" "check_doors" (defArgs s_check_doors) (defBody s_check_doors) (defScope s_check_doors) .none kV_check_doors dc_check_doors pm_check_doors an_check_doors cd_check_doors ct_check_doors), sl_check_doors⟩)
    (c_check_doors : PySem.W.codeIn K cd_check_doors "check_doors" = true)
    (k_check_doors : PySem.W.keepIn K (.ref f_check_doors) = true)
    (a_check_house : PySem.W.nsIn K mainGlobals "check_house" = some (some (.ref f_check_house)))
    (l_check_house : K.lookup f_check_house = some ⟨oc_check_house, od_check_house, .func (PySem.W.fnOf "check_house" "check_house" (defArgs s_check_house) (defBody s_check_house) (defScope s_check_house) .none kV_check_house dc_check_house pm_check_house an_check_house cd_check_house ct_check_house), sl_check_house⟩)
    (c_check_house : PySem.W.codeIn K cd_check_house "check_house" = true)
    (k_check_house : PySem.W.keepIn K (.ref f_check_house) = true)
    (a_House_init : PySem.W.findIn K (.ref C_House) "__init__" = some (some (.ref f_House_init)))
    (i_House_init : PySem.W.isFn K (.ref f_House_init) = true)
    (l_House_init : K.lookup f_House_init = some ⟨oc_House_init, od_House_init, .func (PySem.W.fnOf "__init__" "House.__init__" (defArgs s_House_init) (defBody s_House_init) (defScope s_House_init) .none kV_House_init dc_House_init pm_House_init an_House_init cd_House_init ct_House_init), sl_House_init⟩)
    (c_House_init : PySem.W.codeIn K cd_House_init "House.__init__" = true)
    (k_House_init : PySem.W.keepIn K (.ref f_House_init) = true)
    (a_House_rooms : PySem.W.findIn K (.ref C_House) "rooms" = some (some (.ref f_House_rooms)))
    (i_House_rooms : PySem.W.isFn K (.ref f_House_rooms) = true)
    (l_House_rooms : K.lookup f_House_rooms = some ⟨oc_House_rooms, od_House_rooms, .func (PySem.W.fnOf "rooms" "House.rooms" (defArgs s_House_rooms) (defBody s_House_rooms) (defScope s_House_rooms) .none kV_House_rooms dc_House_rooms pm_House_rooms an_House_rooms cd_House_rooms ct_House_rooms), sl_House_rooms⟩)
    (c_House_rooms : PySem.W.codeIn K cd_House_rooms "House.rooms" = true)
    (k_House_rooms : PySem.W.keepIn K (.ref f_House_rooms) = true)
    (a_words_by_room : PySem.W.nsIn K mainGlobals "words_by_room" = some (some (.ref f_words_by_room)))
    (l_words_by_room : K.lookup f_words_by_room = some ⟨oc_words_by_room, od_words_by_room, .func (PySem.W.fnOf "words_by_room" "words_by_room" (defArgs s_words_by_room) (defBody s_words_by_room) (defScope s_words_by_room) .none kV_words_by_room dc_words_by_room pm_words_by_room an_words_by_room cd_words_by_room ct_words_by_room), sl_words_by_room⟩)
    (c_words_by_room : PySem.W.codeIn K cd_words_by_room "words_by_room" = true)
    (k_words_by_room : PySem.W.keepIn K (.ref f_words_by_room) = true)
    (a_reached : PySem.W.nsIn K mainGlobals "reached" = some (some (.ref f_reached)))
    (l_reached : K.lookup f_reached = some ⟨oc_reached, od_reached, .func (PySem.W.fnOf "reached" "reached" (defArgs s_reached) (defBody s_reached) (defScope s_reached) .none kV_reached dc_reached pm_reached an_reached cd_reached ct_reached), sl_reached⟩)
    (c_reached : PySem.W.codeIn K cd_reached "reached" = true)
    (k_reached : PySem.W.keepIn K (.ref f_reached) = true)
    (a_with_rooms : PySem.W.nsIn K mainGlobals "with_rooms" = some (some (.ref f_with_rooms)))
    (l_with_rooms : K.lookup f_with_rooms = some ⟨oc_with_rooms, od_with_rooms, .func (PySem.W.fnOf "with_rooms" "with_rooms" (defArgs s_with_rooms) (defBody s_with_rooms) (defScope s_with_rooms) .none kV_with_rooms dc_with_rooms pm_with_rooms an_with_rooms cd_with_rooms ct_with_rooms), sl_with_rooms⟩)
    (c_with_rooms : PySem.W.codeIn K cd_with_rooms "with_rooms" = true)
    (k_with_rooms : PySem.W.keepIn K (.ref f_with_rooms) = true)
    (a_without_unreached : PySem.W.nsIn K mainGlobals "without_unreached" = some (some (.ref f_without_unreached)))
    (l_without_unreached : K.lookup f_without_unreached = some ⟨oc_without_unreached, od_without_unreached, .func (PySem.W.fnOf "without_unreached" "without_unreached" (defArgs s_without_unreached) (defBody s_without_unreached) (defScope s_without_unreached) .none kV_without_unreached dc_without_unreached pm_without_unreached an_without_unreached cd_without_unreached ct_without_unreached), sl_without_unreached⟩)
    (c_without_unreached : PySem.W.codeIn K cd_without_unreached "without_unreached" = true)
    (k_without_unreached : PySem.W.keepIn K (.ref f_without_unreached) = true)
    (a_numbered : PySem.W.nsIn K mainGlobals "numbered" = some (some (.ref f_numbered)))
    (l_numbered : K.lookup f_numbered = some ⟨oc_numbered, od_numbered, .func (PySem.W.fnOf "numbered" "numbered" (defArgs s_numbered) (defBody s_numbered) (defScope s_numbered) .none kV_numbered dc_numbered pm_numbered an_numbered cd_numbered ct_numbered), sl_numbered⟩)
    (c_numbered : PySem.W.codeIn K cd_numbered "numbered" = true)
    (k_numbered : PySem.W.keepIn K (.ref f_numbered) = true)
    (a_parted_further : PySem.W.nsIn K mainGlobals "parted_further" = some (some (.ref f_parted_further)))
    (l_parted_further : K.lookup f_parted_further = some ⟨oc_parted_further, od_parted_further, .func (PySem.W.fnOf "parted_further" "parted_further" (defArgs s_parted_further) (defBody s_parted_further) (defScope s_parted_further) .none kV_parted_further dc_parted_further pm_parted_further an_parted_further cd_parted_further ct_parted_further), sl_parted_further⟩)
    (c_parted_further : PySem.W.codeIn K cd_parted_further "parted_further" = true)
    (k_parted_further : PySem.W.keepIn K (.ref f_parted_further) = true)
    (a_kinds_of_rooms : PySem.W.nsIn K mainGlobals "kinds_of_rooms" = some (some (.ref f_kinds_of_rooms)))
    (l_kinds_of_rooms : K.lookup f_kinds_of_rooms = some ⟨oc_kinds_of_rooms, od_kinds_of_rooms, .func (PySem.W.fnOf "kinds_of_rooms" "kinds_of_rooms" (defArgs s_kinds_of_rooms) (defBody s_kinds_of_rooms) (defScope s_kinds_of_rooms) .none kV_kinds_of_rooms dc_kinds_of_rooms pm_kinds_of_rooms an_kinds_of_rooms cd_kinds_of_rooms ct_kinds_of_rooms), sl_kinds_of_rooms⟩)
    (c_kinds_of_rooms : PySem.W.codeIn K cd_kinds_of_rooms "kinds_of_rooms" = true)
    (k_kinds_of_rooms : PySem.W.keepIn K (.ref f_kinds_of_rooms) = true)
    (a_fewest : PySem.W.nsIn K mainGlobals "fewest" = some (some (.ref f_fewest)))
    (l_fewest : K.lookup f_fewest = some ⟨oc_fewest, od_fewest, .func (PySem.W.fnOf "fewest" "fewest" (defArgs s_fewest) (defBody s_fewest) (defScope s_fewest) .none kV_fewest dc_fewest pm_fewest an_fewest cd_fewest ct_fewest), sl_fewest⟩)
    (c_fewest : PySem.W.codeIn K cd_fewest "fewest" = true)
    (k_fewest : PySem.W.keepIn K (.ref f_fewest) = true)
    (a_l_cell_at : PySem.W.nsIn K mainGlobals "_law_cell_at" = some (some (.ref f_l_cell_at)))
    (l_l_cell_at : K.lookup f_l_cell_at = some ⟨oc_l_cell_at, od_l_cell_at, .func (PySem.W.fnOf "_law_cell_at" "_law_cell_at" (defArgs s_l_cell_at) (defBody s_l_cell_at) (defScope s_l_cell_at) .none kV_l_cell_at dc_l_cell_at pm_l_cell_at an_l_cell_at cd_l_cell_at ct_l_cell_at), sl_l_cell_at⟩)
    (c_l_cell_at : PySem.W.codeIn K cd_l_cell_at "_law_cell_at" = true)
    (k_l_cell_at : PySem.W.keepIn K (.ref f_l_cell_at) = true)
    (a_l_draw : PySem.W.nsIn K mainGlobals "_law_draw" = some (some (.ref f_l_draw)))
    (l_l_draw : K.lookup f_l_draw = some ⟨oc_l_draw, od_l_draw, .func (PySem.W.fnOf "_law_draw" "_law_draw" (defArgs s_l_draw) (defBody s_l_draw) (defScope s_l_draw) .none kV_l_draw dc_l_draw pm_l_draw an_l_draw cd_l_draw ct_l_draw), sl_l_draw⟩)
    (c_l_draw : PySem.W.codeIn K cd_l_draw "_law_draw" = true)
    (k_l_draw : PySem.W.keepIn K (.ref f_l_draw) = true)
    (a_l_ways_by : PySem.W.nsIn K mainGlobals "_law_ways_by" = some (some (.ref f_l_ways_by)))
    (l_l_ways_by : K.lookup f_l_ways_by = some ⟨oc_l_ways_by, od_l_ways_by, .func (PySem.W.fnOf "_law_ways_by" "_law_ways_by" (defArgs s_l_ways_by) (defBody s_l_ways_by) (defScope s_l_ways_by) .none kV_l_ways_by dc_l_ways_by pm_l_ways_by an_l_ways_by cd_l_ways_by ct_l_ways_by), sl_l_ways_by⟩)
    (c_l_ways_by : PySem.W.codeIn K cd_l_ways_by "_law_ways_by" = true)
    (k_l_ways_by : PySem.W.keepIn K (.ref f_l_ways_by) = true)
    (a_l_lamps_by : PySem.W.nsIn K mainGlobals "_law_lamps_by" = some (some (.ref f_l_lamps_by)))
    (l_l_lamps_by : K.lookup f_l_lamps_by = some ⟨oc_l_lamps_by, od_l_lamps_by, .func (PySem.W.fnOf "_law_lamps_by" "_law_lamps_by" (defArgs s_l_lamps_by) (defBody s_l_lamps_by) (defScope s_l_lamps_by) .none kV_l_lamps_by dc_l_lamps_by pm_l_lamps_by an_l_lamps_by cd_l_lamps_by ct_l_lamps_by), sl_l_lamps_by⟩)
    (c_l_lamps_by : PySem.W.codeIn K cd_l_lamps_by "_law_lamps_by" = true)
    (k_l_lamps_by : PySem.W.keepIn K (.ref f_l_lamps_by) = true)
    (a_l_walk : PySem.W.nsIn K mainGlobals "_law_walk" = some (some (.ref f_l_walk)))
    (l_l_walk : K.lookup f_l_walk = some ⟨oc_l_walk, od_l_walk, .func (PySem.W.fnOf "_law_walk" "_law_walk" (defArgs s_l_walk) (defBody s_l_walk) (defScope s_l_walk) .none kV_l_walk dc_l_walk pm_l_walk an_l_walk cd_l_walk ct_l_walk), sl_l_walk⟩)
    (c_l_walk : PySem.W.codeIn K cd_l_walk "_law_walk" = true)
    (k_l_walk : PySem.W.keepIn K (.ref f_l_walk) = true)
    (a_l_whole : PySem.W.nsIn K mainGlobals "_law_whole" = some (some (.ref f_l_whole)))
    (l_l_whole : K.lookup f_l_whole = some ⟨oc_l_whole, od_l_whole, .func (PySem.W.fnOf "_law_whole" "_law_whole" (defArgs s_l_whole) (defBody s_l_whole) (defScope s_l_whole) .none kV_l_whole dc_l_whole pm_l_whole an_l_whole cd_l_whole ct_l_whole), sl_l_whole⟩)
    (c_l_whole : PySem.W.codeIn K cd_l_whole "_law_whole" = true)
    (k_l_whole : PySem.W.keepIn K (.ref f_l_whole) = true)
    (a_l_numbers : PySem.W.nsIn K mainGlobals "_law_numbers" = some (some (.ref f_l_numbers)))
    (l_l_numbers : K.lookup f_l_numbers = some ⟨oc_l_numbers, od_l_numbers, .func (PySem.W.fnOf "_law_numbers" "_law_numbers" (defArgs s_l_numbers) (defBody s_l_numbers) (defScope s_l_numbers) .none kV_l_numbers dc_l_numbers pm_l_numbers an_l_numbers cd_l_numbers ct_l_numbers), sl_l_numbers⟩)
    (c_l_numbers : PySem.W.codeIn K cd_l_numbers "_law_numbers" = true)
    (k_l_numbers : PySem.W.keepIn K (.ref f_l_numbers) = true)
    (a_l_is_word : PySem.W.nsIn K mainGlobals "_law_is_word" = some (some (.ref f_l_is_word)))
    (l_l_is_word : K.lookup f_l_is_word = some ⟨oc_l_is_word, od_l_is_word, .func (PySem.W.fnOf "_law_is_word" "_law_is_word" (defArgs s_l_is_word) (defBody s_l_is_word) (defScope s_l_is_word) .none kV_l_is_word dc_l_is_word pm_l_is_word an_l_is_word cd_l_is_word ct_l_is_word), sl_l_is_word⟩)
    (c_l_is_word : PySem.W.codeIn K cd_l_is_word "_law_is_word" = true)
    (k_l_is_word : PySem.W.keepIn K (.ref f_l_is_word) = true)
    (a_l_truths : PySem.W.nsIn K mainGlobals "_law_truths" = some (some (.ref f_l_truths)))
    (l_l_truths : K.lookup f_l_truths = some ⟨oc_l_truths, od_l_truths, .func (PySem.W.fnOf "_law_truths" "_law_truths" (defArgs s_l_truths) (defBody s_l_truths) (defScope s_l_truths) .none kV_l_truths dc_l_truths pm_l_truths an_l_truths cd_l_truths ct_l_truths), sl_l_truths⟩)
    (c_l_truths : PySem.W.codeIn K cd_l_truths "_law_truths" = true)
    (k_l_truths : PySem.W.keepIn K (.ref f_l_truths) = true)
    (a_l_house_is : PySem.W.nsIn K mainGlobals "_law_house_is" = some (some (.ref f_l_house_is)))
    (l_l_house_is : K.lookup f_l_house_is = some ⟨oc_l_house_is, od_l_house_is, .func (PySem.W.fnOf "_law_house_is" "_law_house_is" (defArgs s_l_house_is) (defBody s_l_house_is) (defScope s_l_house_is) .none kV_l_house_is dc_l_house_is pm_l_house_is an_l_house_is cd_l_house_is ct_l_house_is), sl_l_house_is⟩)
    (c_l_house_is : PySem.W.codeIn K cd_l_house_is "_law_house_is" = true)
    (k_l_house_is : PySem.W.keepIn K (.ref f_l_house_is) = true)
    (a_l_sound : PySem.W.nsIn K mainGlobals "_law_sound" = some (some (.ref f_l_sound)))
    (l_l_sound : K.lookup f_l_sound = some ⟨oc_l_sound, od_l_sound, .func (PySem.W.fnOf "_law_sound" "_law_sound" (defArgs s_l_sound) (defBody s_l_sound) (defScope s_l_sound) .none kV_l_sound dc_l_sound pm_l_sound an_l_sound cd_l_sound ct_l_sound), sl_l_sound⟩)
    (c_l_sound : PySem.W.codeIn K cd_l_sound "_law_sound" = true)
    (k_l_sound : PySem.W.keepIn K (.ref f_l_sound) = true)
    (a_l_part : PySem.W.nsIn K mainGlobals "_law_part" = some (some (.ref f_l_part)))
    (l_l_part : K.lookup f_l_part = some ⟨oc_l_part, od_l_part, .func (PySem.W.fnOf "_law_part" "_law_part" (defArgs s_l_part) (defBody s_l_part) (defScope s_l_part) .none kV_l_part dc_l_part pm_l_part an_l_part cd_l_part ct_l_part), sl_l_part⟩)
    (c_l_part : PySem.W.codeIn K cd_l_part "_law_part" = true)
    (k_l_part : PySem.W.keepIn K (.ref f_l_part) = true)
    (a_l_least_words : PySem.W.nsIn K mainGlobals "_law_least_words" = some (some (.ref f_l_least_words)))
    (l_l_least_words : K.lookup f_l_least_words = some ⟨oc_l_least_words, od_l_least_words, .func (PySem.W.fnOf "_law_least_words" "_law_least_words" (defArgs s_l_least_words) (defBody s_l_least_words) (defScope s_l_least_words) .none kV_l_least_words dc_l_least_words pm_l_least_words an_l_least_words cd_l_least_words ct_l_least_words), sl_l_least_words⟩)
    (c_l_least_words : PySem.W.codeIn K cd_l_least_words "_law_least_words" = true)
    (k_l_least_words : PySem.W.keepIn K (.ref f_l_least_words) = true)
    (a_law : PySem.W.nsIn K mainGlobals "law" = some (some (.ref f_law)))
    (l_law : K.lookup f_law = some ⟨oc_law, od_law, .func (PySem.W.fnOf "law" "law" (defArgs s_law) (defBody s_law) (defScope s_law) .none kV_law dc_law pm_law an_law cd_law ct_law), sl_law⟩)
    (c_law : PySem.W.codeIn K cd_law "law" = true)
    (k_law : PySem.W.keepIn K (.ref f_law) = true)
    : ∃ t, Txt K mg t :=
  ⟨{ C_House := C_House, f_check_doors := f_check_doors, fd_check_doors := PySem.W.fnOf "check_doors" "check_doors" (defArgs s_check_doors) (defBody s_check_doors) (defScope s_check_doors) .none kV_check_doors dc_check_doors pm_check_doors an_check_doors cd_check_doors ct_check_doors, f_check_house := f_check_house, fd_check_house := PySem.W.fnOf "check_house" "check_house" (defArgs s_check_house) (defBody s_check_house) (defScope s_check_house) .none kV_check_house dc_check_house pm_check_house an_check_house cd_check_house ct_check_house, f_House_init := f_House_init, fd_House_init := PySem.W.fnOf "__init__" "House.__init__" (defArgs s_House_init) (defBody s_House_init) (defScope s_House_init) .none kV_House_init dc_House_init pm_House_init an_House_init cd_House_init ct_House_init, f_House_rooms := f_House_rooms, fd_House_rooms := PySem.W.fnOf "rooms" "House.rooms" (defArgs s_House_rooms) (defBody s_House_rooms) (defScope s_House_rooms) .none kV_House_rooms dc_House_rooms pm_House_rooms an_House_rooms cd_House_rooms ct_House_rooms, f_words_by_room := f_words_by_room, fd_words_by_room := PySem.W.fnOf "words_by_room" "words_by_room" (defArgs s_words_by_room) (defBody s_words_by_room) (defScope s_words_by_room) .none kV_words_by_room dc_words_by_room pm_words_by_room an_words_by_room cd_words_by_room ct_words_by_room, f_reached := f_reached, fd_reached := PySem.W.fnOf "reached" "reached" (defArgs s_reached) (defBody s_reached) (defScope s_reached) .none kV_reached dc_reached pm_reached an_reached cd_reached ct_reached, f_with_rooms := f_with_rooms, fd_with_rooms := PySem.W.fnOf "with_rooms" "with_rooms" (defArgs s_with_rooms) (defBody s_with_rooms) (defScope s_with_rooms) .none kV_with_rooms dc_with_rooms pm_with_rooms an_with_rooms cd_with_rooms ct_with_rooms, f_without_unreached := f_without_unreached, fd_without_unreached := PySem.W.fnOf "without_unreached" "without_unreached" (defArgs s_without_unreached) (defBody s_without_unreached) (defScope s_without_unreached) .none kV_without_unreached dc_without_unreached pm_without_unreached an_without_unreached cd_without_unreached ct_without_unreached, f_numbered := f_numbered, fd_numbered := PySem.W.fnOf "numbered" "numbered" (defArgs s_numbered) (defBody s_numbered) (defScope s_numbered) .none kV_numbered dc_numbered pm_numbered an_numbered cd_numbered ct_numbered, f_parted_further := f_parted_further, fd_parted_further := PySem.W.fnOf "parted_further" "parted_further" (defArgs s_parted_further) (defBody s_parted_further) (defScope s_parted_further) .none kV_parted_further dc_parted_further pm_parted_further an_parted_further cd_parted_further ct_parted_further, f_kinds_of_rooms := f_kinds_of_rooms, fd_kinds_of_rooms := PySem.W.fnOf "kinds_of_rooms" "kinds_of_rooms" (defArgs s_kinds_of_rooms) (defBody s_kinds_of_rooms) (defScope s_kinds_of_rooms) .none kV_kinds_of_rooms dc_kinds_of_rooms pm_kinds_of_rooms an_kinds_of_rooms cd_kinds_of_rooms ct_kinds_of_rooms, f_fewest := f_fewest, fd_fewest := PySem.W.fnOf "fewest" "fewest" (defArgs s_fewest) (defBody s_fewest) (defScope s_fewest) .none kV_fewest dc_fewest pm_fewest an_fewest cd_fewest ct_fewest, f_l_cell_at := f_l_cell_at, fd_l_cell_at := PySem.W.fnOf "_law_cell_at" "_law_cell_at" (defArgs s_l_cell_at) (defBody s_l_cell_at) (defScope s_l_cell_at) .none kV_l_cell_at dc_l_cell_at pm_l_cell_at an_l_cell_at cd_l_cell_at ct_l_cell_at, f_l_draw := f_l_draw, fd_l_draw := PySem.W.fnOf "_law_draw" "_law_draw" (defArgs s_l_draw) (defBody s_l_draw) (defScope s_l_draw) .none kV_l_draw dc_l_draw pm_l_draw an_l_draw cd_l_draw ct_l_draw, f_l_ways_by := f_l_ways_by, fd_l_ways_by := PySem.W.fnOf "_law_ways_by" "_law_ways_by" (defArgs s_l_ways_by) (defBody s_l_ways_by) (defScope s_l_ways_by) .none kV_l_ways_by dc_l_ways_by pm_l_ways_by an_l_ways_by cd_l_ways_by ct_l_ways_by, f_l_lamps_by := f_l_lamps_by, fd_l_lamps_by := PySem.W.fnOf "_law_lamps_by" "_law_lamps_by" (defArgs s_l_lamps_by) (defBody s_l_lamps_by) (defScope s_l_lamps_by) .none kV_l_lamps_by dc_l_lamps_by pm_l_lamps_by an_l_lamps_by cd_l_lamps_by ct_l_lamps_by, f_l_walk := f_l_walk, fd_l_walk := PySem.W.fnOf "_law_walk" "_law_walk" (defArgs s_l_walk) (defBody s_l_walk) (defScope s_l_walk) .none kV_l_walk dc_l_walk pm_l_walk an_l_walk cd_l_walk ct_l_walk, f_l_whole := f_l_whole, fd_l_whole := PySem.W.fnOf "_law_whole" "_law_whole" (defArgs s_l_whole) (defBody s_l_whole) (defScope s_l_whole) .none kV_l_whole dc_l_whole pm_l_whole an_l_whole cd_l_whole ct_l_whole, f_l_numbers := f_l_numbers, fd_l_numbers := PySem.W.fnOf "_law_numbers" "_law_numbers" (defArgs s_l_numbers) (defBody s_l_numbers) (defScope s_l_numbers) .none kV_l_numbers dc_l_numbers pm_l_numbers an_l_numbers cd_l_numbers ct_l_numbers, f_l_is_word := f_l_is_word, fd_l_is_word := PySem.W.fnOf "_law_is_word" "_law_is_word" (defArgs s_l_is_word) (defBody s_l_is_word) (defScope s_l_is_word) .none kV_l_is_word dc_l_is_word pm_l_is_word an_l_is_word cd_l_is_word ct_l_is_word, f_l_truths := f_l_truths, fd_l_truths := PySem.W.fnOf "_law_truths" "_law_truths" (defArgs s_l_truths) (defBody s_l_truths) (defScope s_l_truths) .none kV_l_truths dc_l_truths pm_l_truths an_l_truths cd_l_truths ct_l_truths, f_l_house_is := f_l_house_is, fd_l_house_is := PySem.W.fnOf "_law_house_is" "_law_house_is" (defArgs s_l_house_is) (defBody s_l_house_is) (defScope s_l_house_is) .none kV_l_house_is dc_l_house_is pm_l_house_is an_l_house_is cd_l_house_is ct_l_house_is, f_l_sound := f_l_sound, fd_l_sound := PySem.W.fnOf "_law_sound" "_law_sound" (defArgs s_l_sound) (defBody s_l_sound) (defScope s_l_sound) .none kV_l_sound dc_l_sound pm_l_sound an_l_sound cd_l_sound ct_l_sound, f_l_part := f_l_part, fd_l_part := PySem.W.fnOf "_law_part" "_law_part" (defArgs s_l_part) (defBody s_l_part) (defScope s_l_part) .none kV_l_part dc_l_part pm_l_part an_l_part cd_l_part ct_l_part, f_l_least_words := f_l_least_words, fd_l_least_words := PySem.W.fnOf "_law_least_words" "_law_least_words" (defArgs s_l_least_words) (defBody s_l_least_words) (defScope s_l_least_words) .none kV_l_least_words dc_l_least_words pm_l_least_words an_l_least_words cd_l_least_words ct_l_least_words, f_law := f_law, fd_law := PySem.W.fnOf "law" "law" (defArgs s_law) (defBody s_law) (defScope s_law) .none kV_law dc_law pm_law an_law cd_law ct_law },
   ⟨PySem.W.mg_none_of X G z_len, PySem.W.mg_none_of X G z_range, PySem.W.mg_none_of X G z_isinstance, PySem.W.mg_none_of X G z_list, PySem.W.mg_none_of X G z_int, PySem.W.mg_none_of X G z_bool, PySem.W.mg_none_of X G z_enumerate, PySem.W.mg_none_of X G z_max, PySem.W.mg_none_of X G z_tuple, PySem.W.mg_none_of X G z_ValueError, ⟨_, PySem.W.mg_of X G c_MOST_DOORS⟩, ⟨_, PySem.W.mg_of X G c_MOST_ROOMS⟩, PySem.W.mg_of X G a_House, ⟨pg_House, hd_House, po_House, sa_House⟩, tc_House, tm_House, n_House_doors, n_House_ways, n_House_lamps, tg, tt, PySem.W.mg_of X G a_check_doors, fun_mk (st := s_check_doors) l_check_doors c_check_doors k_check_doors, PySem.W.mg_of X G a_check_house, fun_mk (st := s_check_house) l_check_house c_check_house k_check_house, fun_mk (st := s_House_init) l_House_init c_House_init k_House_init, ⟨mk_House, a_House_init, i_House_init, kc_House⟩, fun_mk (st := s_House_rooms) l_House_rooms c_House_rooms k_House_rooms, ⟨a_House_rooms, i_House_rooms, k_House_rooms⟩, PySem.W.mg_of X G a_words_by_room, fun_mk (st := s_words_by_room) l_words_by_room c_words_by_room k_words_by_room, PySem.W.mg_of X G a_reached, fun_mk (st := s_reached) l_reached c_reached k_reached, PySem.W.mg_of X G a_with_rooms, fun_mk (st := s_with_rooms) l_with_rooms c_with_rooms k_with_rooms, PySem.W.mg_of X G a_without_unreached, fun_mk (st := s_without_unreached) l_without_unreached c_without_unreached k_without_unreached, PySem.W.mg_of X G a_numbered, fun_mk (st := s_numbered) l_numbered c_numbered k_numbered, PySem.W.mg_of X G a_parted_further, fun_mk (st := s_parted_further) l_parted_further c_parted_further k_parted_further, PySem.W.mg_of X G a_kinds_of_rooms, fun_mk (st := s_kinds_of_rooms) l_kinds_of_rooms c_kinds_of_rooms k_kinds_of_rooms, PySem.W.mg_of X G a_fewest, fun_mk (st := s_fewest) l_fewest c_fewest k_fewest, PySem.W.mg_of X G a_l_cell_at, fun_mk (st := s_l_cell_at) l_l_cell_at c_l_cell_at k_l_cell_at, PySem.W.mg_of X G a_l_draw, fun_mk (st := s_l_draw) l_l_draw c_l_draw k_l_draw, PySem.W.mg_of X G a_l_ways_by, fun_mk (st := s_l_ways_by) l_l_ways_by c_l_ways_by k_l_ways_by, PySem.W.mg_of X G a_l_lamps_by, fun_mk (st := s_l_lamps_by) l_l_lamps_by c_l_lamps_by k_l_lamps_by, PySem.W.mg_of X G a_l_walk, fun_mk (st := s_l_walk) l_l_walk c_l_walk k_l_walk, PySem.W.mg_of X G a_l_whole, fun_mk (st := s_l_whole) l_l_whole c_l_whole k_l_whole, PySem.W.mg_of X G a_l_numbers, fun_mk (st := s_l_numbers) l_l_numbers c_l_numbers k_l_numbers, PySem.W.mg_of X G a_l_is_word, fun_mk (st := s_l_is_word) l_l_is_word c_l_is_word k_l_is_word, PySem.W.mg_of X G a_l_truths, fun_mk (st := s_l_truths) l_l_truths c_l_truths k_l_truths, PySem.W.mg_of X G a_l_house_is, fun_mk (st := s_l_house_is) l_l_house_is c_l_house_is k_l_house_is, PySem.W.mg_of X G a_l_sound, fun_mk (st := s_l_sound) l_l_sound c_l_sound k_l_sound, PySem.W.mg_of X G a_l_part, fun_mk (st := s_l_part) l_l_part c_l_part k_l_part, PySem.W.mg_of X G a_l_least_words, fun_mk (st := s_l_least_words) l_l_least_words c_l_least_words k_l_least_words, PySem.W.mg_of X G a_law, fun_mk (st := s_law) l_law c_law k_law⟩⟩
end My
open PySem PySem.W PyProof.Rows
def _root_.PySem.W.Fast.tw17886335093616105037 : Unit := ()
def _root_.PySem.W.Fast.tw10916646844120172058 : Unit := ()
def _root_.PySem.W.Fast.tw9288743912438708066 : Unit := ()
def _root_.PySem.W.Fast.tw17147712397194801393 : Unit := ()
def _root_.PySem.W.Fast.tw6672636035438184774 : Unit := ()
def _root_.PySem.W.Fast.tw16067651440893635860 : Unit := ()
def _root_.PySem.W.Fast.tw16764058417070089172 : Unit := ()
def _root_.PySem.W.Fast.tw6070325427211331750 : Unit := ()
def _root_.PySem.W.Fast.tw595718205515796709 : Unit := ()
def _root_.PySem.W.Fast.tw8657440317201598837 : Unit := ()
def _root_.PySem.W.Fast.tw13657317521809143758 : Unit := ()
def _root_.PySem.W.Fast.tw16828273522285017661 : Unit := ()
def _root_.PySem.W.Fast.tw5770888005179851024 : Unit := ()
def _root_.PySem.W.Fast.tw12840601313945431259 : Unit := ()
def _root_.PySem.W.Fast.tw198512197168807222 : Unit := ()
def _root_.PySem.W.Fast.tw9548304956741101996 : Unit := ()
def _root_.PySem.W.Fast.tw3953851871205572983 : Unit := ()
def _root_.PySem.W.Fast.tw6848183395234040433 : Unit := ()
def _root_.PySem.W.Fast.tw13443505772186330025 : Unit := ()
def _root_.PySem.W.Fast.tw9656867832312261155 : Unit := ()
def _root_.PySem.W.Fast.tw1832512668210302748 : Unit := ()
def _root_.PySem.W.Fast.tw16557844126156159626 : Unit := ()
def _root_.PySem.W.Fast.tw544415006833412375 : Unit := ()
def _root_.PySem.W.Fast.tw7068941078094783058 : Unit := ()
def _root_.PySem.W.Fast.tw8775699098768912651 : Unit := ()
def _root_.PySem.W.Fast.tw10010845547017935624 : Unit := ()
def _root_.PySem.W.Fast.tw11774705443977264313 : Unit := ()
def _root_.PySem.W.Fast.tw4732497126764964945 : Unit := ()
def _root_.PySem.W.Fast.tw3756282951499488056 : Unit := ()
def _root_.PySem.W.Fast.tw4777367448995778705 : Unit := ()
def _root_.PySem.W.Fast.tw7791888504600140071 : Unit := ()
def _root_.PySem.W.Fast.tw13202479317985532198 : Unit := ()
def _root_.PySem.W.Fast.tw17885060517101374414 : Unit := ()
def _root_.PySem.W.Fast.tw11226976347222647402 : Unit := ()
def _root_.PySem.W.Fast.tw14115459812382939744 : Unit := ()
def _root_.PySem.W.Fast.tw3097929576690453524 : Unit := ()
def _root_.PySem.W.Fast.tw18043136643838771501 : Unit := ()
def _root_.PySem.W.Fast.tw7174193906509234737 : Unit := ()
def _root_.PySem.W.Fast.tw3058934862233012131 : Unit := ()
def _root_.PySem.W.Fast.tw534882648858167611 : Unit := ()
def _root_.PySem.W.Fast.tw135702295134831233 : Unit := ()
def _root_.PySem.W.Fast.tw12795775755262179859 : Unit := ()
def _root_.PySem.W.Fast.tw13077881935097948761 : Unit := ()
def _root_.PySem.W.Fast.tw4197841387905070906 : Unit := ()
def _root_.PySem.W.Fast.tw9949533266319586535 : Unit := ()
def _root_.PySem.W.Fast.tw6954482125822956457 : Unit := ()
def _root_.PySem.W.Fast.tw10704597354901742406 : Unit := ()
def _root_.PySem.W.Fast.tw14478506526138786309 : Unit := ()
def _root_.PySem.W.Fast.tw11495021980379999232 : Unit := ()
def _root_.PySem.W.Fast.tw9855217337172491854 : Unit := ()
def _root_.PySem.W.Fast.tw6942904768343966362 : Unit := ()
def _root_.PySem.W.Fast.tw5451450854381356307 : Unit := ()
def _root_.PySem.W.Fast.tw7728175469673075287 : Unit := ()
def _root_.PySem.W.Fast.tw2698971091194470793 : Unit := ()
def _root_.PySem.W.Fast.tw3782598820683395152 : Unit := ()
def _root_.PySem.W.Fast.tw8436686269875574488 : Unit := ()
def _root_.PySem.W.Fast.tw2716552583881033597 : Unit := ()
def _root_.PySem.W.Fast.tw8627622271297187846 : Unit := ()
def _root_.PySem.W.Fast.tw982379677979631882 : Unit := ()
def _root_.PySem.W.Fast.tw1971605099950143554 : Unit := ()
def _root_.PySem.W.Fast.tw7994503578898808612 : Unit := ()
def _root_.PySem.W.Fast.tw16403343733942801 : Unit := ()
def _root_.PySem.W.Fast.tw10567046864936713203 : Unit := ()
def _root_.PySem.W.Fast.tw10305531764104687780 : Unit := ()
def _root_.PySem.W.Fast.tw19690795430417671 : Unit := ()
def _root_.PySem.W.Fast.tw18170311946099437814 : Unit := ()
set_option maxRecDepth 100000 in
set_option maxHeartbeats 0 in
theorem PySem.Challenge.cw_askhouse_k08_whole_fewest_rooms_holds : PySem.Challenge.rw_askhouse_k08_whole_fewest_rooms.Holds := by
  w_on; o_law; k_head; (case hw => w_witness2)
  k_fill
  refine L2.walk_ofK (l := PySem.Challenge.rw_askhouse_k08_whole_fewest_rooms) (n := 63) (k := 8) (x := "script") (CX := L2.CX0) (sp := fun K => My.sp_law K) rfl (by decide) rfl ⟨rfl, by decide, by decide⟩ (fun w h Y => PySem.W.kIn_of Y) ?F ?S ?C
  case F =>
    intro w mg fa h KX G hmg
    have T : ∃ t, My.Txt (L2.KOf KX) mg t := by
      dsimp only [L2.KOf]
      refine' My.txt_mk KX G ?z_len ?z_range ?z_isinstance ?z_list ?z_int ?z_bool ?z_enumerate ?z_max ?z_tuple ?z_ValueError ?c_MOST_DOORS ?c_MOST_ROOMS ?a_House ?pg_House ?hd_House ?po_House ?sa_House ?mk_House ?kc_House ?tc_House ?tm_House ?n_House_doors ?n_House_ways ?n_House_lamps ?tg ?tt ?a_check_doors ?l_check_doors ?c_check_doors ?k_check_doors ?a_check_house ?l_check_house ?c_check_house ?k_check_house ?a_House_init ?i_House_init ?l_House_init ?c_House_init ?k_House_init ?a_House_rooms ?i_House_rooms ?l_House_rooms ?c_House_rooms ?k_House_rooms ?a_words_by_room ?l_words_by_room ?c_words_by_room ?k_words_by_room ?a_reached ?l_reached ?c_reached ?k_reached ?a_with_rooms ?l_with_rooms ?c_with_rooms ?k_with_rooms ?a_without_unreached ?l_without_unreached ?c_without_unreached ?k_without_unreached ?a_numbered ?l_numbered ?c_numbered ?k_numbered ?a_parted_further ?l_parted_further ?c_parted_further ?k_parted_further ?a_kinds_of_rooms ?l_kinds_of_rooms ?c_kinds_of_rooms ?k_kinds_of_rooms ?a_fewest ?l_fewest ?c_fewest ?k_fewest ?a_l_cell_at ?l_l_cell_at ?c_l_cell_at ?k_l_cell_at ?a_l_draw ?l_l_draw ?c_l_draw ?k_l_draw ?a_l_ways_by ?l_l_ways_by ?c_l_ways_by ?k_l_ways_by ?a_l_lamps_by ?l_l_lamps_by ?c_l_lamps_by ?k_l_lamps_by ?a_l_walk ?l_l_walk ?c_l_walk ?k_l_walk ?a_l_whole ?l_l_whole ?c_l_whole ?k_l_whole ?a_l_numbers ?l_l_numbers ?c_l_numbers ?k_l_numbers ?a_l_is_word ?l_l_is_word ?c_l_is_word ?k_l_is_word ?a_l_truths ?l_l_truths ?c_l_truths ?k_l_truths ?a_l_house_is ?l_l_house_is ?c_l_house_is ?k_l_house_is ?a_l_sound ?l_l_sound ?c_l_sound ?k_l_sound ?a_l_part ?l_l_part ?c_l_part ?k_l_part ?a_l_least_words ?l_l_least_words ?c_l_least_words ?k_l_least_words ?a_law ?l_law ?c_law ?k_law
      (case z_len => k_is)
      (case z_range => k_is)
      (case z_isinstance => k_is)
      (case z_list => k_is)
      (case z_int => k_is)
      (case z_bool => k_is)
      (case z_enumerate => k_is)
      (case z_max => k_is)
      (case z_tuple => k_is)
      (case z_ValueError => k_is)
      (case c_MOST_DOORS => k_is)
      (case c_MOST_ROOMS => k_is)
      (case a_House => k_is)
      (case pg_House => k_is)
      (case hd_House => k_is)
      (case po_House => k_is)
      (case sa_House => k_is)
      (case mk_House => k_is)
      (case kc_House => k_is)
      (case tc_House => k_is)
      (case tm_House => k_is)
      (case n_House_doors => k_is)
      (case n_House_ways => k_is)
      (case n_House_lamps => k_is)
      (case tg => k_is)
      (case tt => k_is)
      (case a_check_doors => k_is)
      (case l_check_doors => k_is)
      (case c_check_doors => k_is)
      (case k_check_doors => k_is)
      (case a_check_house => k_is)
      (case l_check_house => k_is)
      (case c_check_house => k_is)
      (case k_check_house => k_is)
      (case a_House_init => k_is)
      (case i_House_init => k_is)
      (case l_House_init => k_is)
      (case c_House_init => k_is)
      (case k_House_init => k_is)
      (case a_House_rooms => k_is)
      (case i_House_rooms => k_is)
      (case l_House_rooms => k_is)
      (case c_House_rooms => k_is)
      (case k_House_rooms => k_is)
      (case a_words_by_room => k_is)
      (case l_words_by_room => k_is)
      (case c_words_by_room => k_is)
      (case k_words_by_room => k_is)
      (case a_reached => k_is)
      (case l_reached => k_is)
      (case c_reached => k_is)
      (case k_reached => k_is)
      (case a_with_rooms => k_is)
      (case l_with_rooms => k_is)
      (case c_with_rooms => k_is)
      (case k_with_rooms => k_is)
      (case a_without_unreached => k_is)
      (case l_without_unreached => k_is)
      (case c_without_unreached => k_is)
      (case k_without_unreached => k_is)
      (case a_numbered => k_is)
      (case l_numbered => k_is)
      (case c_numbered => k_is)
      (case k_numbered => k_is)
      (case a_parted_further => k_is)
      (case l_parted_further => k_is)
      (case c_parted_further => k_is)
      (case k_parted_further => k_is)
      (case a_kinds_of_rooms => k_is)
      (case l_kinds_of_rooms => k_is)
      (case c_kinds_of_rooms => k_is)
      (case k_kinds_of_rooms => k_is)
      (case a_fewest => k_is)
      (case l_fewest => k_is)
      (case c_fewest => k_is)
      (case k_fewest => k_is)
      (case a_l_cell_at => k_is)
      (case l_l_cell_at => k_is)
      (case c_l_cell_at => k_is)
      (case k_l_cell_at => k_is)
      (case a_l_draw => k_is)
      (case l_l_draw => k_is)
      (case c_l_draw => k_is)
      (case k_l_draw => k_is)
      (case a_l_ways_by => k_is)
      (case l_l_ways_by => k_is)
      (case c_l_ways_by => k_is)
      (case k_l_ways_by => k_is)
      (case a_l_lamps_by => k_is)
      (case l_l_lamps_by => k_is)
      (case c_l_lamps_by => k_is)
      (case k_l_lamps_by => k_is)
      (case a_l_walk => k_is)
      (case l_l_walk => k_is)
      (case c_l_walk => k_is)
      (case k_l_walk => k_is)
      (case a_l_whole => k_is)
      (case l_l_whole => k_is)
      (case c_l_whole => k_is)
      (case k_l_whole => k_is)
      (case a_l_numbers => k_is)
      (case l_l_numbers => k_is)
      (case c_l_numbers => k_is)
      (case k_l_numbers => k_is)
      (case a_l_is_word => k_is)
      (case l_l_is_word => k_is)
      (case c_l_is_word => k_is)
      (case k_l_is_word => k_is)
      (case a_l_truths => k_is)
      (case l_l_truths => k_is)
      (case c_l_truths => k_is)
      (case k_l_truths => k_is)
      (case a_l_house_is => k_is)
      (case l_l_house_is => k_is)
      (case c_l_house_is => k_is)
      (case k_l_house_is => k_is)
      (case a_l_sound => k_is)
      (case l_l_sound => k_is)
      (case c_l_sound => k_is)
      (case k_l_sound => k_is)
      (case a_l_part => k_is)
      (case l_l_part => k_is)
      (case c_l_part => k_is)
      (case k_l_part => k_is)
      (case a_l_least_words => k_is)
      (case l_l_least_words => k_is)
      (case c_l_least_words => k_is)
      (case k_l_least_words => k_is)
      (case a_law => k_is)
      (case l_law => k_is)
      (case c_law => k_is)
      (case k_law => k_is)
    obtain ⟨t, T⟩ := T
    have e0 := hmg.symm.trans T.mg_law
    cases e0
    refine' ⟨t.fd_law, ?b, fun base kb nb => My.ok_law T⟩
    obtain ⟨oc, od, kV, doc, pm, an, cdv, ct, osl, e, _, _⟩ := T.F_law.ex
    rw [e]
    exact fun s u => .of_eq rfl
  case S => exact fun K H a ns hl hO hS => ⟨a, ns, rfl, hS, hl, fun _ => rfl⟩
  case C => exact fun _ _ _ _ h => h
#print axioms PySem.Challenge.cw_askhouse_k08_whole_fewest_rooms_holds
