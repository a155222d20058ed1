import PyProof.Rows.All
import Wide.All
import OpenK.AllK
import Wide.FinOn
import Lean
import PyProof.EqAt
import PyProof.EqKinds
import PyProof.TupleCall
import PySem.Challenge.RW_pairsheath_k25_between_two_choices
set_option Elab.async false
set_option linter.all false
set_option maxRecDepth 100000
/-! THE HAND LAYER, for ints, bools, texts, own classes, LISTS and tuples (index, slices, in, append, pop ..), calls, loops. Paste it whole ahead of your own text; what your proof does not reach may be deleted. -/
namespace L2
open PySem PySem.Spec PyProof.Rows

/-- a key: an int or a str -/
abbrev Key := Sum Int Str
def keyIs : Key → Value → Bool
  | .inl k, v => Value.isInt k v
  | .inr x, v => Value.isStrOf x v
def keyH (w : World) : Key → Int
  | .inl k => hashInt k
  | .inr x => hashStr w x
theorem keyIs_shape : ∀ {k : Key} {v : Value}, keyIs k v = true → (∃ i t, k = Sum.inl i ∧ v = Value.int i t) ∨ (∃ x t, k = Sum.inr x ∧ v = Value.str x t)
  | .inl i, v, h => by
    obtain ⟨t, e⟩ := Value.isInt_shape (k := i) (v := v) h
    exact .inl ⟨i, t, rfl, e⟩
  | .inr x, v, h => by
    obtain ⟨t, e⟩ := Value.isStrOf_shape (x := x) (v := v) h
    exact .inr ⟨x, t, rfl, e⟩
theorem keyIs_int (i : Int) (t : Tok) : keyIs (.inl i) (.int i t) = true := by simp [keyIs, Value.isInt]
theorem keyIs_str (x : Str) (t : Tok) : keyIs (.inr x) (.str x t) = true := by simp [keyIs, Value.isStrOf]
theorem key_ll (a b : Int) : decide ((Sum.inl a : Key) = Sum.inl b) = (a == b) := by
  by_cases e : a = b
  · subst e; simp
  · have h : ¬ (Sum.inl a : Key) = Sum.inl b := fun q => e (Sum.inl.inj q)
    rw [decide_eq_false h]
    exact (beq_eq_false_iff_ne.mpr e).symm
theorem key_rr (a b : Str) : decide ((Sum.inr a : Key) = Sum.inr b) = decide (a = b) := by
  by_cases e : a = b
  · subst e; simp
  · have h : ¬ (Sum.inr a : Key) = Sum.inr b := fun q => e (Sum.inr.inj q)
    rw [decide_eq_false h, decide_eq_false e]
theorem key_lr (a : Int) (b : Str) : decide ((Sum.inl a : Key) = Sum.inr b) = false := decide_eq_false (fun q => nomatch q)
theorem key_rl (a : Str) (b : Int) : decide ((Sum.inr a : Key) = Sum.inl b) = false := decide_eq_false (fun q => nomatch q)

def mixKind (prog : Program) (w : World) : PySem.KeyKind prog w Key where
  is := keyIs
  hash := keyH w
  inj := fun v a b ha hb => by
    rcases keyIs_shape ha with ⟨i, t, rfl, rfl⟩ | ⟨x, t, rfl, rfl⟩
    · rcases keyIs_shape hb with ⟨j, u, rfl, e⟩ | ⟨y, u, rfl, e⟩
      · injection e with e1 _; rw [e1]
      · exact nomatch e
    · rcases keyIs_shape hb with ⟨j, u, rfl, e⟩ | ⟨y, u, rfl, e⟩
      · exact nomatch e
      · injection e with e1 _; rw [e1]
  byValue := fun k v h => by
    rcases keyIs_shape h with ⟨i, t, rfl, rfl⟩ | ⟨x, t, rfl, rfl⟩ <;> rfl
  pyHash := fun hv h => by
    rcases keyIs_shape hv with ⟨i, t, rfl, rfl⟩ | ⟨x, t, rfl, rfl⟩
    · exact wpAny_pyHash_int h
    · exact wpAny_pyHash_str h
  eqBool := fun hu hv h => by
    rcases keyIs_shape hu with ⟨i, t, rfl, rfl⟩ | ⟨x, t, rfl, rfl⟩
    · rcases keyIs_shape hv with ⟨j, u, rfl, rfl⟩ | ⟨y, u, rfl, rfl⟩
      · rw [key_ll] at h; exact wpAny_eqBool_int h
      · rw [key_lr] at h; exact SeqAt.EqAt.int_str i t y u _ _ _ _ h
    · rcases keyIs_shape hv with ⟨j, u, rfl, rfl⟩ | ⟨y, u, rfl, rfl⟩
      · rw [key_rl] at h; exact SeqAt.EqAt.str_int x t j u _ _ _ _ h
      · rw [key_rr] at h; exact wpAny_eqBool_str h
  «strs» := fun k x t v h => by
    rcases keyIs_shape h with ⟨i, u, rfl, e⟩ | ⟨y, u, rfl, e⟩
    · exact nomatch e
    · injection e with e1 _
      subst e1
      cases v <;> rfl

theorem mixKind_int (prog : Program) (w : World) (i : Int) (t : Tok) : (mixKind prog w).is (.inl i) (.int i t) = true := keyIs_int i t
theorem mixKind_str (prog : Program) (w : World) (x : Str) (t : Tok) : (mixKind prog w).is (.inr x) (.str x t) = true := keyIs_str x t
end L2

namespace L2
open PySem PySem.Spec PyProof.Rows

/-- a value, without the heap -/
inductive V where
  | non | bl (b : Bool) | int (i : Int) | str (x : Str) | byt (b : Array UInt8) | flt (b : UInt64) | ref (a : Addr) | ty (n : String)
  deriving DecidableEq

def RelV : V → Value → Prop
  | .non, u => u = Value.none
  | .bl b, u => u = Value.bool b
  | .int i, u => ∃ t, u = Value.int i t
  | .str x, u => ∃ t, u = Value.str x t
  | .byt b, u => ∃ t, u = Value.bytes b t
  | .flt b, u => ∃ t, u = Value.float b t
  | .ref a, u => u = Value.ref a
  | .ty n, u => u = Value.type n

abbrev Vals : List V → List Value → Prop := Paired RelV
theorem Vals.length {xs : List V} {us : List Value} (r : Vals xs us) : xs.length = us.length := Paired.length r
theorem Vals.get : ∀ {xs : List V} {us : List Value} {i : Nat} {x : V}, Vals xs us → xs[i]? = some x → ∃ u, us[i]? = some u ∧ RelV x u
  | _, _, _, _, .nil, e => by simp at e
  | _, _, 0, _, .cons r _, e => by simp at e; subst e; exact ⟨_, rfl, r⟩
  | _, _, i + 1, x, .cons _ t, e => by
    obtain ⟨u, h1, h2⟩ := Vals.get (i := i) (x := x) t (by simpa using e)
    exact ⟨u, by simpa using h1, h2⟩
theorem Vals.append : ∀ {xs ys : List V} {us ws : List Value}, Vals xs us → Vals ys ws → Vals (xs ++ ys) (us ++ ws)
  | _, _, _, _, .nil, s => s
  | _, _, _, _, .cons r t, s => .cons r (Vals.append t s)
theorem Vals.take : ∀ {xs : List V} {us : List Value} (n : Nat), Vals xs us → Vals (xs.take n) (us.take n)
  | _, _, 0, _ => .nil
  | _, _, _ + 1, .nil => .nil
  | _, _, n + 1, .cons r t => .cons r (Vals.take n t)
theorem Vals.drop : ∀ {xs : List V} {us : List Value} (n : Nat), Vals xs us → Vals (xs.drop n) (us.drop n)
  | _, _, 0, r => r
  | _, _, _ + 1, .nil => .nil
  | _, _, n + 1, .cons _ t => Vals.drop n t

def RelO : Option V → Option Value → Prop
  | some v, some u => RelV v u
  | none, none => True
  | _, _ => False
def KV {κ : Type} : List (κ × V) → List (κ × Value) → Prop := Paired fun (p : κ × V) (q : κ × Value) => p.1 = q.1 ∧ RelV p.2 q.2

/-- a key of a dict (00_mix): an int or a text -/
def kV : Key → V
  | .inl i => .int i
  | .inr x => .str x

/-- what stands at a tracked address -/
inductive HO where
  /-- a list -/
  | lst (xs : List V)
  /-- a tuple (never changes) -/
  | tup (xs : List V)
  /-- a dict whose keys are ints and texts; one whose keys are tuples of ints and texts (the empty one is both) -/
  | dK (kvs : List (Key × V)) | dT (kvs : List (List Key × V))
  /-- a set of ints: its members, its size -/
  | set (S : Int → Bool) (n : Nat)
  /-- an instance of the class at C, its dict at dx, its attributes -/
  | ins (C dx : Addr) (fs : List (Str × V))
  /-- the dict of the instance at x -/
  | own (x : Addr)
  /-- the dict of an exception -/
  | xd (fs : List (Str × V))
  /-- a bound method, f of x -/
  | met (f x : Addr)
  /-- a range object lo, lo + 1, .. below hi -/
  | rng (lo hi : Int)
  /-- a thing that is known to the object (the script; a dict while a loop walks it): read, never written while it is so -/
  | frz (o : Obj) (u : HO)
  /-- a code object's table -/
  | tbl (ps : Array Value)
  /-- any other thing, by what is true of its one object (a def of one's own: SetO a S n := HO.ext fun h => ..) -/
  | ext (φ : Heap → Prop)

abbrev Hp := Addr → Option HO
def upd (H : Hp) (a : Addr) (o : HO) : Hp := fun b => if b = a then some o else H b
theorem upd_same {H : Hp} {a : Addr} {o : HO} : upd H a o a = some o := by unfold upd; rw [if_pos rfl]
theorem upd_ne {H : Hp} {a b : Addr} {o : HO} (h : b ≠ a) : upd H a o b = H b := by unfold upd; rw [if_neg h]
/-- two objects of different content stand apart -/
theorem ne_of {H : Hp} {a b : Addr} {o u : HO} (h : H a = some o) (h' : H b = some u) (d : o ≠ u) : a ≠ b := by
  intro e; subst e; rw [h] at h'; exact d (Option.some.inj h')
theorem ne_of_none {H : Hp} {a b : Addr} {o : HO} (h : H a = some o) (h' : H b = none) : a ≠ b := by
  intro e; subst e; rw [h] at h'; cases h'

section
variable (P : Program) (w : World)
def ObjOk (H : Hp) (h : Heap) (a : Addr) : HO → Prop
  | .lst xs => xs.length ≤ sizeLine ∧ ∃ (its : List Value) (n : Nat), Vals xs its ∧ h.get? a = some { cls := .type "list", data := .seq its.toArray n }
  | .tup xs => xs.length ≤ sizeLine ∧ ∃ its : List Value, Vals xs its ∧ IsTup h a its.toArray
  | .dK kvs => kvs.length ≤ sizeLine ∧ (a == sysModules) = false ∧ ∃ vs, KV kvs vs ∧ h.DictOf (mixKind P w) a vs
  | .dT kvs => kvs.length ≤ sizeLine ∧ (a == sysModules) = false ∧ ∃ xs : List (List Key × Addr × Value),
      Paired (fun (p : List Key × V) (q : List Key × Addr × Value) => p.1 = q.1 ∧ H q.2.1 = some (.tup (p.1.map kV)) ∧ RelV p.2 q.2.2) kvs xs ∧
      ∃ o es ep, h.get? a = some o ∧ o.ExactDict ∧ o.data = .dict es ep ∧ es.toList = xs.map (entryOfKey (tupleKind (mixKind P w))) ∧ (xs.map (·.1)).Nodup
  | .set S n => h.SetOf (intKind P w) a S n
  | .ins C dx fs => H dx = some (.own a) ∧ fs.length ≤ 1000 ∧ dx ≠ a ∧ h.get? a = some (PySem.W.instObj C dx) ∧
      ∃ mA, h.Ns1 dx mA ∧ (∀ f, RelO (fs.lookup f) (mA f)) ∧ PySem.Within mA (fs.map (·.1))
  | .own _ => ∃ o, h.get? a = some o
  | .xd fs => ∃ mA, h.Ns1 a mA ∧ ∀ f, RelO (fs.lookup f) (mA f)
  | .rng lo hi => ∃ t u v, h.get? a = some { cls := .type "range", data := .fields #[.int lo t, .int hi u, .int 1 v] }
  | .frz o u => h.get? a = some o ∧ ObjOk H h a u
  | .tbl ps => h.get? a = some { cls := .none, data := .fields ps }
  | .met f x => h.get? a = some (PySem.W.methodObj (.ref f) (.ref x))
  | .ext φ => φ h ∧ (∃ o, h.get? a = some o) ∧ ∀ h1 h2 : Heap, φ h1 → (∀ o, h1.get? a = some o → h2.get? a = some o) → φ h2
/-- the abstract heap is held -/
def HOk (H : Hp) (h : Heap) : Prop := ∀ a o, H a = some o → ObjOk P w H h a o
end

section
variable {P : Program} {w : World} {H H' : Hp} {h h' : Heap} {a : Addr} {o : HO}
theorem ObjOk.lt (x : ObjOk P w H h a o) : a < h.objs.size := by
  cases o with
  | lst xs => obtain ⟨_, _, _, _, e⟩ := x; exact Heap.lt_size e
  | tup xs => obtain ⟨_, _, _, p⟩ := x; exact p.lt
  | dK kvs => obtain ⟨_, _, _, _, o, _, _, e, _⟩ := x; exact Heap.lt_size e
  | dT kvs => obtain ⟨_, _, _, _, o, _, _, e, _⟩ := x; exact Heap.lt_size e
  | set S n => obtain ⟨o, _, _, _, e, _⟩ := x; exact Heap.lt_size e
  | ins C dx fs => obtain ⟨_, _, _, e, _⟩ := x; exact Heap.lt_size e
  | own y => obtain ⟨_, e⟩ := x; exact Heap.lt_size e
  | xd fs => obtain ⟨_, ⟨_, _, _, e, _⟩, _⟩ := x; exact Heap.lt_size e
  | rng lo hi => obtain ⟨_, _, _, e⟩ := x; exact Heap.lt_size e
  | frz ob u => obtain ⟨e, _⟩ := x; exact Heap.lt_size e
  | tbl ps => exact Heap.lt_size (show h.get? a = some _ from x)
  | met f y => exact Heap.lt_size (show h.get? a = some _ from x)
  | ext φ => obtain ⟨_, ⟨_, e⟩, _⟩ := x; exact Heap.lt_size e
theorem Paired.mapP {α β : Type} {F G : α → β → Prop} : ∀ {l₁ : List α} {l₂ : List β}, Paired F l₁ l₂ → (∀ a b, F a b → G a b) → Paired G l₁ l₂
  | _, _, .nil, _ => .nil
  | _, _, .cons r t, f => .cons (f _ _ r) (Paired.mapP t f)
/-- what an object's description leans on: its own object, its own dict, the tuples -/
theorem ObjOk.stay (x : ObjOk P w H h a o) (k : ∀ b u, (b = a ∨ H b = some (.own a)) → h.get? b = some u → h'.get? b = some u)
    (ho : ∀ b, H b = some (.own a) → H' b = some (.own a)) (ht : ∀ b xs, H b = some (.tup xs) → H' b = some (.tup xs)) : ObjOk P w H' h' a o := by
  induction o with
  | lst xs => obtain ⟨z, its, n, r, e⟩ := x; exact ⟨z, its, n, r, k _ _ (.inl rfl) e⟩
  | tup xs => obtain ⟨z, its, r, ob, e, c⟩ := x; exact ⟨z, its, r, ob, k _ _ (.inl rfl) e, c⟩
  | dK kvs => obtain ⟨z, y, vs, r, ob, es, ep, e, c⟩ := x; exact ⟨z, y, vs, r, ob, es, ep, k _ _ (.inl rfl) e, c⟩
  | dT kvs =>
    obtain ⟨z, y, xs, r, ob, es, ep, e, c⟩ := x
    exact ⟨z, y, xs, Paired.mapP r fun p q z => ⟨z.1, ht _ _ z.2.1, z.2.2⟩, ob, es, ep, k _ _ (.inl rfl) e, c⟩
  | set S n => obtain ⟨ob, es, ep, t, e, c⟩ := x; exact ⟨ob, es, ep, t, k _ _ (.inl rfl) e, c⟩
  | ins C dx fs =>
    obtain ⟨d, z, ne, e, mA, ⟨od, es, ep, e2, c⟩, r⟩ := x
    exact ⟨ho _ d, z, ne, k _ _ (.inl rfl) e, mA, ⟨od, es, ep, k _ _ (.inr d) e2, c⟩, r⟩
  | own y => obtain ⟨ob, e⟩ := x; exact ⟨ob, k _ _ (.inl rfl) e⟩
  | xd fs => obtain ⟨mA, ⟨od, es, ep, e, c⟩, r⟩ := x; exact ⟨mA, ⟨od, es, ep, k _ _ (.inl rfl) e, c⟩, r⟩
  | rng lo hi => obtain ⟨t, u, v, e⟩ := x; exact ⟨t, u, v, k _ _ (.inl rfl) e⟩
  | frz ob u ih => obtain ⟨e, q⟩ := x; exact ⟨k _ _ (.inl rfl) e, ih q⟩
  | tbl ps =>
    have e : h.get? a = some { cls := .none, data := .fields ps } := x
    show h'.get? a = some { cls := .none, data := .fields ps }
    exact k a _ (.inl rfl) e
  | met f y =>
    have e : h.get? a = some (PySem.W.methodObj (.ref f) (.ref y)) := x
    show h'.get? a = some (PySem.W.methodObj (.ref f) (.ref y))
    exact k a _ (.inl rfl) e
  | ext φ => obtain ⟨p, ⟨o, e⟩, st⟩ := x; exact ⟨st _ _ p fun o q => k _ _ (.inl rfl) q, ⟨o, k _ _ (.inl rfl) e⟩, st⟩
theorem HOk.lt (x : HOk P w H h) (e : H a = some o) : a < h.objs.size := (x a o e).lt
theorem HOk.fresh (x : HOk P w H h) (e : h.objs.size ≤ a) : H a = none := by
  cases q : H a with
  | none => rfl
  | some u => exact absurd (Nat.lt_of_lt_of_le (x.lt q) e) (Nat.lt_irrefl _)
/-- every object of the heap is kept -/
theorem HOk.kept (x : HOk P w H h) (k : ∀ b u, h.get? b = some u → h'.get? b = some u) : HOk P w H h' := fun a o e =>
  (x a o e).stay (fun b u _ q => k b u q) (fun _ q => q) fun _ _ q => q
/-- a new object is laid and tracked -/
theorem HOk.laid (x : HOk P w H h) (k : ∀ b u, h.get? b = some u → h'.get? b = some u) (hp : h.objs.size ≤ a) (new : ObjOk P w (upd H a o) h' a o) : HOk P w (upd H a o) h' := fun b u e => by
  have hn := x.fresh hp
  by_cases hb : b = a
  · subst hb; rw [upd_same] at e; cases e; exact new
  · rw [upd_ne hb] at e
    exact (x b u e).stay (fun c v _ q => k c v q) (fun c q => by rw [upd_ne (ne_of_none q hn)]; exact q) fun c xs q => by rw [upd_ne (ne_of_none q hn)]; exact q
end

/-- what may be read as u: it is u, or a known u -/
def Rd (H : Hp) (a : Addr) (u : HO) : Prop := H a = some u ∨ ∃ o, H a = some (.frz o u)
theorem Rd.ok {P : Program} {w : World} {H : Hp} {h : Heap} {a : Addr} {u : HO} (r : Rd H a u) (x : HOk P w H h) : ObjOk P w H h a u := by
  rcases r with r | ⟨o, r⟩
  · exact x a u r
  · obtain ⟨_, q⟩ := x a _ r
    exact q
/-- what may be written -/
def Mut : Option HO → Prop
  | some (.lst _) => True
  | some (.dK _) => True
  | some (.dT _) => True
  | some (.set _ _) => True
  | some (.ins _ _ _) => True
  | some (.ext _) => True
  | _ => False
section
variable {P : Program} {w : World} {H : Hp} {h h' : Heap} {x e : Addr} {o' : HO}
/-- the object at e is changed: x itself, or the dict of the instance x -/
theorem HOk.write (ok : HOk P w H h) (mu : Mut (H x)) (he : e = x ∨ H e = some (.own x)) (k : ∀ b u, b ≠ e → h.get? b = some u → h'.get? b = some u) (heo : ∃ u, h'.get? e = some u)
    (new : ObjOk P w (upd H x o') h' x o') : HOk P w (upd H x o') h' := fun b u q => by
  have nown : ∀ c y, H c = some (.own y) → c ≠ x := fun c y r z => by subst z; rw [r] at mu; exact mu
  have ntup : ∀ c xs, H c = some (.tup xs) → c ≠ x := fun c xs r z => by subst z; rw [r] at mu; exact mu
  by_cases hb : b = x
  · subst hb; rw [upd_same] at q; cases q; exact new
  · rw [upd_ne hb] at q
    by_cases hbe : b = e
    · have q' : H b = some (.own x) := by
        rcases he with z | z
        · exact absurd (hbe.trans z) hb
        · rw [hbe]; exact z
      rw [q] at q'; cases q'
      obtain ⟨v, hv⟩ := heo
      exact ⟨v, by rw [hbe]; exact hv⟩
    · refine (ok b u q).stay (fun c v hc r => k c v ?_ r) (fun c r => by rw [upd_ne (nown c b r)]; exact r) fun c xs r => by rw [upd_ne (ntup c xs r)]; exact r
      rcases hc with rfl | hc
      · exact hbe
      · rintro rfl
        rcases he with z | z
        · exact nown c b hc z
        · rw [hc] at z; cases z; exact hb rfl
end

/-! ### kept unless tracked; of the frames at fs (the callers') the slots may change (an exception that passes writes there); of the records at ex (iterators) nothing is said -/
structure Un (fs ex : List Addr) (H H' : Hp) (h h' : Heap) : Prop where
  keep : ∀ b o, h.get? b = some o → H b = none → b ∉ fs → b ∉ ex → h'.get? b = some o
  slot : ∀ b o, h.get? b = some o → H b = none → b ∈ fs → b ∉ ex → ∃ sl, h'.get? b = some { o with slots := sl }
  free : ∀ b o, h.get? b = some o → H b = none → b ∉ ex → H' b = none
  there : ∀ b o, h.get? b = some o → b ∉ ex → ∃ o', h'.get? b = some o'
  tups : ∀ b xs, H b = some (.tup xs) → H' b = some (.tup xs)
  frzs : ∀ b o u, H b = some (.frz o u) → H' b = some (.frz o u)
  tbls : ∀ b ps, H b = some (.tbl ps) → ∃ more, H' b = some (.tbl (ps ++ more))
section
variable {fs fs' ex ex' : List Addr} {H H1 H2 : Hp} {h h1 h2 h' : Heap} {a x e : Addr} {o : HO}
theorem Un.any (u : Un fs ex H H1 h h1) {b : Addr} {ob : Obj} (q : h.get? b = some ob) (n : H b = none) (hx : b ∉ ex) : ∃ sl, h1.get? b = some { ob with slots := sl } := by
  by_cases hb : b ∈ fs
  · exact u.slot b ob q n hb hx
  · exact ⟨ob.slots, u.keep b ob q n hb hx⟩
theorem Un.kept (k : ∀ b u, h.get? b = some u → h'.get? b = some u) : Un fs ex H H h h' :=
  ⟨fun b ob q _ _ _ => k b ob q, fun b ob q _ _ _ => ⟨ob.slots, k b ob q⟩, fun _ _ _ n _ => n, fun b ob q _ => ⟨ob, k b ob q⟩, fun _ _ q => q, fun _ _ _ q => q, fun _ ps q => ⟨#[], by rw [q]; simp⟩⟩
theorem Un.refl : Un fs ex H H h h := Un.kept fun _ _ q => q
theorem Un.laid (k : ∀ b u, h.get? b = some u → h'.get? b = some u) (hp : h.objs.size ≤ a) (hn : H a = none) : Un fs ex H (upd H a o) h h' where
  keep := fun b u q _ _ _ => k b u q
  slot := fun b u q _ _ _ => ⟨u.slots, k b u q⟩
  free := fun b u q n _ => by rw [upd_ne (Nat.ne_of_lt (Nat.lt_of_lt_of_le (Heap.lt_size q) hp))]; exact n
  there := fun b u q _ => ⟨u, k b u q⟩
  tups := fun b xs q => by rw [upd_ne (ne_of_none q hn)]; exact q
  frzs := fun b u xs q => by rw [upd_ne (ne_of_none q hn)]; exact q
  tbls := fun b ps q => ⟨#[], by rw [upd_ne (ne_of_none q hn), q]; simp⟩
theorem Un.write (mu : Mut (H x)) (he : e = x ∨ H e = some (.own x)) (k : ∀ b u, b ≠ e → h.get? b = some u → h'.get? b = some u) (heo : ∃ u, h'.get? e = some u) : Un fs ex H (upd H x o) h h' := by
  have hx : ∀ b, H b = none → b ≠ x := fun b n z => by subst z; rw [n] at mu; exact mu
  have hb : ∀ b, H b = none → b ≠ e := fun b n z => by
    subst z
    rcases he with r | r
    · exact hx b n r
    · rw [n] at r; cases r
  have hm : ∀ b u, H b = some u → ¬ Mut (some u) → b ≠ x := fun b u q nm z => by subst z; rw [q] at mu; exact nm mu
  refine ⟨fun b u q n _ _ => k b u (hb b n) q, fun b u q n _ _ => ⟨u.slots, k b u (hb b n) q⟩, fun b u q n _ => by rw [upd_ne (hx b n)]; exact n, fun b u q _ => ?_,
    fun b xs q => by rw [upd_ne (hm b _ q fun z => z)]; exact q, fun b u xs q => by rw [upd_ne (hm b _ q fun z => z)]; exact q, fun b ps q => ⟨#[], by rw [upd_ne (hm b _ q fun z => z), q]; simp⟩⟩
  by_cases hbe : b = e
  · subst hbe; exact heo
  · exact ⟨u, k b u hbe q⟩
end

/-! ### the heap without what is tracked -/
def trk (h : Heap) (H : Hp) : List Addr := (List.range h.objs.size).filter fun a => (H a).isSome
def hidT (h : Heap) (H : Hp) : Heap := PySem.W.hideAll h (trk h H)
theorem hidT_size (h : Heap) (H : Hp) : (hidT h H).objs.size = h.objs.size := PySem.W.hideAll_size _ _
theorem hidT_get {h : Heap} {H : Hp} {b : Addr} {o : Obj} (e : h.get? b = some o) (n : H b = none) : (hidT h H).get? b = some o :=
  PySem.W.hideAll_get _ e fun hm => by
    have q : (H b).isSome = true := (List.mem_filter.mp hm).2
    rw [n] at q; simp at q
theorem of_hidT {h : Heap} {H : Hp} {b : Addr} {o : Obj} (e : (hidT h H).get? b = some o) : h.get? b = some o ∧ H b = none := by
  have e' : h.get? b = some o := PySem.W.of_hideAll (trk h H) e
  refine ⟨e', ?_⟩
  cases q : H b with
  | none => rfl
  | some x =>
    have hm : b ∈ trk h H := List.mem_filter.mpr ⟨List.mem_range.mpr (Heap.lt_size e'), by simp [q]⟩
    have z : (hidT h H).get? b = none := PySem.W.hideAll_none (trk h H) hm
    rw [z] at e; cases e

/-! ### OpenK's ledger, filled with every new object but one -/
def allNews (g h : Heap) (L : Addr) : List (Addr × Obj) := (List.range h.objs.size).filterMap fun a => if a = L ∨ (g.get? a).isSome = true then none else (h.get? a).map fun o => (a, o)
def rest (g h : Heap) (L d : Addr) : List (Addr × Obj) := (allNews g h L).filter fun p => decide (p.1 ≠ d)
end L2

namespace L2
open PySem PySem.Spec PyProof.Rows

/-- the module's facts, over the base: the heap at the law's entry without what is tracked there -/
structure Mod (K : PySem.W.Frag) (mg : Str → Option Value) (base : Heap) : Prop where
  kin : K.In base
  glob : base.Ns mainGlobals mg
  blt : ∃ mb, base.Ns builtinsNs mb ∧ ∀ x : Str, x ≠ "__name__" → mb x = bootBuiltins x
  nolimit : base.NoLimit

/-- the context: a def's body (or a comprehension's block) running. base: fixed through the whole law; s₀, H₀: the entry; outer: the frames whose slots others may change (a def's callers); stack: all frames that run;
   ex: iterators that were made ahead of the entry and are walked here (a comprehension's); fn: the names whose cells were made at the entry (a def: all; a comprehension's block: its own); calm: not within an except suite; pn: pins that every state bears; xe: what is wanted of an exception that leaves the code -/
structure Cx where
  prog : Program
  w : World
  K : PySem.W.Frag
  mg : Str → Option Value
  base : Heap
  A : Around
  N : List Str
  s₀ : Shared
  H₀ : Hp
  env : Env
  outer : List Env
  stack : List Env
  ex : List Addr
  fn : Str → Bool
  calm : Bool
  pn : List (Addr × Obj)
  xe : Value → Shared → Prop
/-- the callers' frames -/
def frs (l : List Env) : List Addr := l.filterMap (·.frame)
abbrev Cx.fs (X : Cx) : List Addr := frs X.outer

def Vis (sc : Scope) (x : Str) : Prop := sc.names.lookup x = some .local ∨ sc.names.lookup x = some .cell ∨ sc.names.lookup x = some .free
def Loc (sc : Scope) (x : Str) : Prop := sc.names.lookup x = some .local ∨ sc.names.lookup x = some .cell
def Look (env : Env) (h : Heap) (m : Str → Option Value) (x : Str) (u : Value) : Prop :=
  (env.kindOf x = some .local ∧ m x = some u) ∨ ((env.kindOf x = some .cell ∨ env.kindOf x = some .free) ∧ ∃ c, env.cells.lookup x = some c ∧ h.IsCell c (some u))

structure Cx.Ok (X : Cx) : Prop where
  mod : Mod X.K X.mg X.base
  kind : X.env.scope.kind = .function
  glob : X.env.globals = mainGlobals
  blt : X.env.builtins = builtinsNs
  above : X.s₀.heap.objs.size ≤ X.env.locals
  inj : ∀ x y c, X.env.cells.lookup x = some c → X.env.cells.lookup y = some c → x = y
  has : ∀ x, (X.env.kindOf x = some .cell ∨ X.env.kindOf x = some .free) → ∃ c, X.env.cells.lookup x = some c
  cab : ∀ x c, X.fn x = true → X.env.cells.lookup x = some c → X.s₀.heap.objs.size ≤ c
  hd : X.calm = true → X.A.handled = none
  frames : X.A.frames = some X.stack
  stk : X.stack = X.outer ∨ (X.stack = X.env :: X.outer ∧ X.env.frame = some X.env.locals)
  exf : ∀ b ∈ X.ex, b ≠ X.env.locals ∧ ∀ x c, X.env.cells.lookup x = some c → c ≠ b
  bs : ∀ b o, X.base.get? b = some o → X.s₀.heap.get? b = some o ∧ X.H₀ b = none
  bsz : X.base.objs.size ≤ X.s₀.heap.objs.size
  noex : ∀ b o, X.base.get? b = some o → b ∉ X.ex
  exfs : ∀ b ∈ X.ex, b ∉ X.fs
  funs : X.s₀.heap.FunFrames X.base X.outer
  frf : ∀ b ∈ X.fs, X.H₀ b = none

structure Inv (X : Cx) (pins : List (Addr × Obj)) (σ : List (Option V)) (H : Hp) (s : Shared) : Prop where
  ok : X.Ok
  os : s.os = X.s₀.os
  bare : AllBare s.gens
  base : Un X.fs X.ex X.H₀ H X.s₀.heap s.heap
  loc : ∃ m, s.heap.Ns X.env.locals m ∧ ∀ (i : Nat) (x : Str) (v : V), X.N[i]? = some x → σ[i]? = some (some v) → Vis X.env.scope x → ∃ u, RelV v u ∧ Look X.env s.heap m x u
  cell : ∀ x c, X.env.cells.lookup x = some c → ∃ v, s.heap.IsCell c v
  free : H X.env.locals = none
  freeC : ∀ x c, X.env.cells.lookup x = some c → H c = none
  pin : ∀ p ∈ X.pn ++ pins, s.heap.get? p.1 = some p.2 ∧ H p.1 = none ∧ p.1 ≠ X.env.locals ∧ p.1 ∉ X.fs ∧ ∀ v, p.2.data ≠ .cell v
  hok : HOk X.prog X.w H s.heap
  len : σ.length = X.N.length

section
variable {X : Cx} {pins : List (Addr × Obj)} {σ : List (Option V)} {H H' : Hp} {s : Shared} {h' : Heap}

theorem Cx.Ok.nofr (ok : X.Ok) {b : Addr} {o : Obj} (e : X.base.get? b = some o) : b ∉ X.fs := fun hb => by
  have := (ok.funs.mem hb).1
  rw [e] at this; cases this
theorem Inv.bs (I : Inv X pins σ H s) : ∀ b o, X.base.get? b = some o → s.heap.get? b = some o ∧ H b = none := fun b o e =>
  ⟨I.base.keep b o (I.ok.bs b o e).1 (I.ok.bs b o e).2 (I.ok.nofr e) (I.ok.noex b o e), I.base.free b o (I.ok.bs b o e).1 (I.ok.bs b o e).2 (I.ok.noex b o e)⟩
theorem Inv.bk (I : Inv X pins σ H s) : ∀ b o, X.base.get? b = some o → s.heap.get? b = some o := fun b o e => (I.bs b o e).1
theorem Inv.mod (I : Inv X pins σ H s) : Mod X.K X.mg X.base := I.ok.mod
theorem Inv.kIn (I : Inv X pins σ H s) : X.K.In s.heap := I.ok.mod.kin.keeps I.bk
theorem Inv.lt (I : Inv X pins σ H s) : X.env.locals < s.heap.objs.size := let ⟨_, hn, _⟩ := I.loc; hn.lt
theorem Inv.sz (I : Inv X pins σ H s) : X.s₀.heap.objs.size ≤ s.heap.objs.size := Nat.le_trans I.ok.above (Nat.le_of_lt I.lt)
theorem Inv.nofs (I : Inv X pins σ H s) {a : Addr} (h : s.heap.objs.size ≤ a) : a ∉ X.fs := fun hb => by
  obtain ⟨_, o, ho, _⟩ := I.ok.funs.mem hb
  exact absurd (Nat.lt_of_lt_of_le (Heap.lt_size ho) (Nat.le_trans I.sz h)) (Nat.lt_irrefl _)
theorem Inv.cne (I : Inv X pins σ H s) : ∀ x c, X.env.cells.lookup x = some c → c ≠ X.env.locals := fun x c e z => by
  obtain ⟨v, o, ho, hd⟩ := I.cell x c e
  obtain ⟨m, ⟨o', es, ep, ho', hd', _⟩, _⟩ := I.loc
  rw [z, ho'] at ho; cases ho; rw [hd'] at hd; cases hd
theorem Inv.funs (I : Inv X pins σ H s) : s.heap.FunFrames X.base X.outer := by
  have all : ∀ (l : List Env), (∀ b ∈ frs l, b ∈ X.fs) → X.s₀.heap.FunFrames X.base l → s.heap.FunFrames X.base l := by
    intro l
    induction l with
    | nil => intro _ _; trivial
    | cons env r ih =>
      intro hs hl
      obtain ⟨hk, ⟨L, o, hf, hn, ho, hd⟩, hr⟩ := hl
      have hL : L ∈ X.fs := hs L (by unfold frs; rw [List.filterMap_cons, hf]; exact List.mem_cons_self)
      obtain ⟨sl, e⟩ := I.base.slot L o ho (I.ok.frf L hL) hL fun z => I.ok.exfs L z hL
      exact ⟨hk, ⟨L, _, hf, hn, e, hd⟩, ih (fun b hb => hs b (by unfold frs; rw [List.filterMap_cons, hf]; exact List.mem_cons_of_mem _ hb)) hr⟩
  exact all X.outer (fun _ hb => hb) I.ok.funs

/-- the frames that run, for a call -/
theorem Inv.stack (I : Inv X pins σ H s) : s.heap.FunFrames X.base X.stack := by
  rcases I.ok.stk with e | ⟨e, hf⟩
  · rw [e]; exact I.funs
  · rw [e]
    obtain ⟨m, hn, _⟩ := I.loc
    refine .cons (by rw [I.ok.kind]; decide) hf hn ?_ I.funs
    exact Heap.get?_none_of_le (Nat.le_trans I.ok.bsz I.ok.above)
theorem Inv.stkSub (I : Inv X pins σ H s) : ∀ b ∈ frs X.stack, b ∈ X.env.locals :: X.fs := fun b hb => by
  rcases I.ok.stk with e | ⟨e, hf⟩
  · rw [e] at hb; exact List.mem_cons_of_mem _ hb
  · rw [e] at hb
    unfold frs at hb
    rw [List.filterMap_cons, hf] at hb
    exact hb
theorem Inv.stkFree (I : Inv X pins σ H s) : ∀ b ∈ frs X.stack, H b = none := fun b hb => by
  rcases List.mem_cons.mp (I.stkSub b hb) with e | hb
  · rw [e]; exact I.free
  · obtain ⟨_, o, ho, _⟩ := I.ok.funs.mem hb
    exact I.base.free b o ho (I.ok.frf b hb) fun z => I.ok.exfs b z hb

/-- THE STEP: the untracked objects but the frame and the records at ch are kept (the callers' frames up to slots), the frame's map is kept, the new abstract heap is held -/
theorem Inv.step {g' : Array GenState} {t' : Nat} {d' : Drawn} {ch : List Addr} (I : Inv X pins σ H s)
    (hch : ∀ b ∈ ch, (b ∈ X.ex ∨ X.s₀.heap.objs.size ≤ b) ∧ b ≠ X.env.locals ∧ (∀ x c, X.env.cells.lookup x = some c → c ≠ b) ∧ ∀ p ∈ X.pn ++ pins, p.1 ≠ b)
    (keep : ∀ b o, b ≠ X.env.locals → b ∉ X.fs → b ∉ ch → s.heap.get? b = some o → H b = none → h'.get? b = some o)
    (slot : ∀ b o, b ≠ X.env.locals → b ∈ X.fs → b ∉ ch → s.heap.get? b = some o → H b = none → ∃ sl, h'.get? b = some { o with slots := sl }) (free : ∀ b o, b ∉ ch → s.heap.get? b = some o → H b = none → H' b = none)
    (there : ∀ b o, b ∉ ch → s.heap.get? b = some o → ∃ o', h'.get? b = some o')
    (tups : ∀ b xs, H b = some (.tup xs) → H' b = some (.tup xs)) (frzs : ∀ b o u, H b = some (.frz o u) → H' b = some (.frz o u)) (tbls : ∀ b ps, H b = some (.tbl ps) → ∃ more, H' b = some (.tbl (ps ++ more)))
    (ns : ∀ m, s.heap.Ns X.env.locals m → h'.Ns X.env.locals m) (hok : HOk X.prog X.w H' h') (hg : AllBare g') :
    Inv X pins σ H' { s with heap := h', gens := g', drawn := d', toks := t' } := by
  have neL : ∀ b o, X.s₀.heap.get? b = some o → b ≠ X.env.locals := fun b o e => Nat.ne_of_lt (Nat.lt_of_lt_of_le (Heap.lt_size e) I.ok.above)
  have neC : ∀ b o, X.s₀.heap.get? b = some o → b ∉ X.ex → b ∉ ch := fun b o e hx hb => by
    rcases (hch b hb).1 with z | z
    · exact hx z
    · exact absurd (Nat.lt_of_lt_of_le (Heap.lt_size e) z) (Nat.lt_irrefl _)
  have cellK : ∀ x c, X.env.cells.lookup x = some c → ∀ v, s.heap.IsCell c v → h'.IsCell c v := fun x c e v ⟨o, ho, hd⟩ => by
    have nch : c ∉ ch := fun z => (hch c z).2.2.1 x c e rfl
    by_cases hc : c ∈ X.fs
    · obtain ⟨sl, q⟩ := slot c o (I.cne x c e) hc nch ho (I.freeC x c e)
      exact ⟨_, q, hd⟩
    · exact ⟨o, keep c o (I.cne x c e) hc nch ho (I.freeC x c e), hd⟩
  refine ⟨I.ok, I.os, hg, ⟨fun b o e n hb hx => ?_, fun b o e n hb hx => ?_, fun b o e n hx => ?_, fun b o e hx => ?_, fun b xs e => tups b xs (I.base.tups b xs e), fun b o xs e => frzs b o xs (I.base.frzs b o xs e), fun b ps e => ?_⟩, ?_, fun x c e => ?_, ?_, fun x c e => ?_, fun p hp => ?_, hok, I.len⟩
  · exact keep b o (neL b o e) hb (neC b o e hx) (I.base.keep b o e n hb hx) (I.base.free b o e n hx)
  · obtain ⟨sl, e1⟩ := I.base.slot b o e n hb hx
    obtain ⟨sl', e2⟩ := slot b _ (neL b o e) hb (neC b o e hx) e1 (I.base.free b o e n hx)
    exact ⟨sl', e2⟩
  · obtain ⟨o', e1⟩ := I.base.there b o e hx
    exact free b o' (neC b o e hx) e1 (I.base.free b o e n hx)
  · obtain ⟨o', e1⟩ := I.base.there b o e hx
    exact there b o' (neC b o e hx) e1
  · obtain ⟨m1, e1⟩ := I.base.tbls b ps e
    obtain ⟨m2, e2⟩ := tbls b _ e1
    exact ⟨m1 ++ m2, by rw [e2, Array.append_assoc]⟩
  · obtain ⟨m, hn, hl⟩ := I.loc
    refine ⟨m, ns m hn, fun i x v e1 e2 e3 => ?_⟩
    obtain ⟨u, r, l⟩ := hl i x v e1 e2 e3
    refine ⟨u, r, ?_⟩
    rcases l with l | ⟨k, c, e, z⟩
    · exact .inl l
    · exact .inr ⟨k, c, e, cellK x c e _ z⟩
  · obtain ⟨v, z⟩ := I.cell x c e
    exact ⟨v, cellK x c e v z⟩
  · obtain ⟨m, ⟨o, _, _, ho, _⟩, _⟩ := I.loc
    exact free _ o (fun z => (hch _ z).2.1 rfl) ho I.free
  · obtain ⟨v, o, ho, hd⟩ := I.cell x c e
    exact free c o (fun z => (hch c z).2.2.1 x c e rfl) ho (I.freeC x c e)
  · obtain ⟨e, n, ne, nf, d⟩ := I.pin p hp
    have nch : p.1 ∉ ch := fun z => (hch p.1 z).2.2.2 p hp rfl
    exact ⟨keep p.1 p.2 ne nf nch e n, free p.1 p.2 nch e n, ne, nf, d⟩
/-- .. where the frame's own object is kept too -/
theorem Inv.un {t' : Nat} (I : Inv X pins σ H s) (u : Un X.fs [] H H' s.heap h') (hok : HOk X.prog X.w H' h') : Inv X pins σ H' { s with heap := h', toks := t' } := by
  obtain ⟨m, ⟨o, es, ep, ho, r⟩, _⟩ := id I.loc
  obtain ⟨sl, hL⟩ := u.any ho I.free (by simp)
  exact I.step (g' := s.gens) (d' := s.drawn) (ch := []) (fun _ z => nomatch z) (fun b o _ hb _ e n => u.keep b o e n hb (by simp)) (fun b o _ hb _ e n => u.slot b o e n hb (by simp)) (fun b o _ e n => u.free b o e n (by simp)) (fun b o _ e => u.there b o e (by simp)) u.tups u.frzs u.tbls (fun m' hm => by
    obtain ⟨o', es', ep', ho', r'⟩ := hm
    rw [ho] at ho'; cases ho'
    exact ⟨_, es', ep', hL, r'⟩) hok I.bare
/-- behind a call (or a comprehension's block): the slots of this frame may have changed too, the records at ch may have turned -/
theorem Inv.call {g' : Array GenState} {t' : Nat} {d' : Drawn} {ch : List Addr} (I : Inv X pins σ H s) (u : Un (frs X.stack) ch H H' s.heap h') (hok : HOk X.prog X.w H' h') (hg : AllBare g')
    (hch : ∀ b ∈ ch, (b ∈ X.ex ∨ X.s₀.heap.objs.size ≤ b) ∧ b ≠ X.env.locals ∧ (∀ x c, X.env.cells.lookup x = some c → c ≠ b) ∧ ∀ p ∈ X.pn ++ pins, p.1 ≠ b) :
    Inv X pins σ H' { s with heap := h', gens := g', drawn := d', toks := t' } := by
  obtain ⟨m, ⟨o, es, ep, ho, r⟩, _⟩ := id I.loc
  obtain ⟨sl, hL⟩ := u.any ho I.free fun z => (hch _ z).2.1 rfl
  exact I.step (ch := ch) hch (fun b o hL hb hc e n => u.keep b o e n (fun z => (List.mem_cons.mp (I.stkSub b z)).elim hL hb) hc) (fun b o _ _ hc e n => u.any e n hc) (fun b o hc e n => u.free b o e n hc) (fun b o hc e => u.there b o e hc) u.tups u.frzs u.tbls (fun m' hm => by
    obtain ⟨o', es', ep', ho', r'⟩ := hm
    rw [ho] at ho'; cases ho'
    exact ⟨_, es', ep', hL, r'⟩) hok hg
/-- an untracked record of ours (an iterator) has turned -/
theorem Inv.turned {t' : Nat} {it : Addr} (I : Inv X pins σ H s) (k : ∀ b o, b ≠ it → s.heap.get? b = some o → h'.get? b = some o) (hn : H it = none) (hL : it ≠ X.env.locals)
    (h1 : it ∈ X.ex ∨ X.s₀.heap.objs.size ≤ it) (h2 : ∀ x c, X.env.cells.lookup x = some c → c ≠ it) (h3 : ∀ p ∈ X.pn ++ pins, p.1 ≠ it) : Inv X pins σ H { s with heap := h', toks := t' } := by
  have nit : ∀ b u, H b = some u → b ≠ it := fun b u e z => by rw [z, hn] at e; cases e
  refine I.step (g' := s.gens) (d' := s.drawn) (ch := [it]) (fun b hb => ?_) (fun b o _ _ hc e _ => k b o (fun z => hc (by simp [z])) e) (fun b o _ _ hc e _ => ⟨o.slots, k b o (fun z => hc (by simp [z])) e⟩) (fun _ _ _ _ n => n)
    (fun b o hc e => ⟨o, k b o (fun z => hc (by simp [z])) e⟩) (fun _ _ e => e) (fun _ _ _ e => e) (fun b ps e => ⟨#[], by rw [e]; simp⟩) (fun m hm => ?_) (fun b u e => ?_) I.bare
  · have e : b = it := by simpa using hb
    subst e
    exact ⟨h1, hL, h2, h3⟩
  · obtain ⟨o, es, ep, ho, r⟩ := hm
    exact ⟨o, es, ep, k _ o (Ne.symm hL) ho, r⟩
  · refine (I.hok b u e).stay (fun c v hc q => k c v ?_ q) (fun _ q => q) fun _ _ q => q
    rcases hc with z | z
    · rw [z]; exact nit b u e
    · exact nit c _ z
theorem Inv.tok (I : Inv X pins σ H s) (t : Nat) : Inv X pins σ H { s with toks := t } := I.un (h' := s.heap) (t' := t) Un.refl I.hok
/-- all objects kept -/
theorem Inv.kept {t' : Nat} (I : Inv X pins σ H s) (k : ∀ b u, s.heap.get? b = some u → h'.get? b = some u) : Inv X pins σ H { s with heap := h', toks := t' } := I.un (Un.kept k) (I.hok.kept k)
/-- a new object laid and tracked -/
theorem Inv.laid {a : Addr} {o : HO} {t' : Nat} (I : Inv X pins σ H s) (k : ∀ b u, s.heap.get? b = some u → h'.get? b = some u) (hp : s.heap.objs.size ≤ a) (new : ObjOk X.prog X.w (upd H a o) h' a o) :
    Inv X pins σ (upd H a o) { s with heap := h', toks := t' } := I.un (Un.laid k hp (I.hok.fresh hp)) (I.hok.laid k hp new)
/-- an object written -/
theorem Inv.write {x e : Addr} {o : HO} {t' : Nat} (I : Inv X pins σ H s) (mu : Mut (H x)) (he : e = x ∨ H e = some (.own x)) (k : ∀ b u, b ≠ e → s.heap.get? b = some u → h'.get? b = some u) (heo : ∃ u, h'.get? e = some u)
    (new : ObjOk X.prog X.w (upd H x o) h' x o) : Inv X pins σ (upd H x o) { s with heap := h', toks := t' } := I.un (Un.write mu he k heo) (I.hok.write mu he k heo new)
theorem Inv.pins_of {pins' : List (Addr × Obj)} (I : Inv X pins σ H s) (h : ∀ p ∈ pins', s.heap.get? p.1 = some p.2 ∧ H p.1 = none ∧ p.1 ≠ X.env.locals ∧ p.1 ∉ X.fs ∧ ∀ v, p.2.data ≠ .cell v) : Inv X pins' σ H s :=
  ⟨I.ok, I.os, I.bare, I.base, I.loc, I.cell, I.free, I.freeC, fun p hp => (List.mem_append.mp hp).elim (fun z => I.pin p (List.mem_append_left _ z)) (h p), I.hok, I.len⟩

theorem nodup_ix {N : List Str} (hN : N.Nodup) {i j : Nat} {x : Str} (a : N[i]? = some x) (b : N[j]? = some x) : i = j := by
  obtain ⟨h1, e1⟩ := List.getElem?_eq_some_iff.mp a
  obtain ⟨h2, e2⟩ := List.getElem?_eq_some_iff.mp b
  exact (List.getElem_inj hN).mp (e1.trans e2.symm)

/-- a name is stored; what changed -/
theorem store_ok2 {M : Model} {A : Around} {E : Value → Shared → Prop} {i : Nat} {x : Str} {v : V} {u : Value} {Q : Unit → Shared → Prop} (I : Inv X pins σ H s) (hN : X.N.Nodup) (hi : X.N[i]? = some x) (hx : Loc X.env.scope x) (r : RelV v u)
    (h : ∀ s', Inv X pins (σ.set i (some v)) H s' → (∃ a, Heap.SameBut a s.heap s'.heap ∧ (a = X.env.locals ∨ X.env.cells.lookup x = some a)) → Q () s') (hf : X.fn x = true ∨ X.env.scope.names.lookup x = some .local := by first | exact .inl rfl | exact .inr rfl | assumption) : wpAny M A (storeName X.env x u) Q E s := by
  obtain ⟨m, hn, hl⟩ := id I.loc
  have hcls : (X.env.scope.kind == .class || (X.env.scope.kind == .module && X.env.locals != X.env.globals)) = false := by rw [I.ok.kind]; rfl
  have hiσ : i < σ.length := by rw [I.len]; exact (List.getElem?_eq_some_iff.mp hi).1
  have cne := I.cne
  have tracked : ∀ {a : Addr} {h' : Heap}, (∃ o, s.heap.get? a = some o ∧ H a = none) → Heap.SameBut a s.heap h' → HOk X.prog X.w H h' := fun {a h'} ha hs b ob e => by
    obtain ⟨_, _, hfree⟩ := ha
    refine (I.hok b ob e).stay (fun c w' hc q => (hs.2 c ?_).trans q) (fun _ q => q) fun _ _ q => q
    rintro rfl
    rcases hc with rfl | hc
    · rw [hfree] at e; cases e
    · rw [hfree] at hc; cases hc
  rcases hx with hk | hk
  · refine wpAny_storeName_local hk hn (fun h' hn' hs => ?_) hcls
    obtain ⟨oL, _, _, hoL, _⟩ := id hn
    refine h _ ⟨I.ok, I.os, I.bare, ⟨fun b o e n hb hx => ?_, fun b o e n hb hx => ?_, I.base.free, fun b o e hx => ?_, I.base.tups, I.base.frzs, I.base.tbls⟩, ⟨_, hn', fun j y v' e1 e2 e3 => ?_⟩, fun y c e => ?_, I.free, I.freeC, fun p hp => ?_, tracked ⟨oL, hoL, I.free⟩ hs, by simpa using I.len⟩ ⟨_, hs, .inl rfl⟩
    · exact (hs.2 b (Nat.ne_of_lt (Nat.lt_of_lt_of_le (Heap.lt_size e) I.ok.above))).trans (I.base.keep b o e n hb hx)
    · obtain ⟨sl, e1⟩ := I.base.slot b o e n hb hx
      exact ⟨sl, (hs.2 b (Nat.ne_of_lt (Nat.lt_of_lt_of_le (Heap.lt_size e) I.ok.above))).trans e1⟩
    · obtain ⟨o', e1⟩ := I.base.there b o e hx
      exact ⟨o', (hs.2 b (Nat.ne_of_lt (Nat.lt_of_lt_of_le (Heap.lt_size e) I.ok.above))).trans e1⟩
    · by_cases hj : j = i
      · subst hj
        rw [hi] at e1; cases e1
        rw [List.getElem?_set_self hiσ] at e2
        cases e2
        exact ⟨u, r, .inl ⟨hk, by simp⟩⟩
      · rw [List.getElem?_set_ne (Ne.symm hj)] at e2
        obtain ⟨u', r', q⟩ := hl j y v' e1 e2 e3
        refine ⟨u', r', ?_⟩
        rcases q with ⟨k, e⟩ | ⟨k, c, e, z⟩
        · refine .inl ⟨k, ?_⟩
          have : y ≠ x := fun e => hj (nodup_ix hN e1 (e ▸ hi))
          simp [this, e]
        · exact .inr ⟨k, c, e, z.sameBut hs (cne y c e)⟩
    · obtain ⟨w', z⟩ := I.cell y c e
      exact ⟨w', z.sameBut hs (cne y c e)⟩
    · obtain ⟨e, n, ne, nf, d⟩ := I.pin p hp
      exact ⟨(hs.2 p.1 ne).trans e, n, ne, nf, d⟩
  · have hfn : X.fn x = true := by
      rcases hf with z | z
      · exact z
      · rw [z] at hk; cases hk
    obtain ⟨c, hc⟩ := I.ok.has x (.inl hk)
    obtain ⟨w', z⟩ := I.cell x c hc
    refine wpAny_storeName_cell I.ok.kind hk hc z (fun h' hc' hs => ?_)
    obtain ⟨oc, hoc, hocd⟩ := id z
    refine h { s with heap := h' } ⟨I.ok, I.os, I.bare, ⟨fun b o e n hb hx => ?_, fun b o e n hb hx => ?_, I.base.free, fun b o e hx => ?_, I.base.tups, I.base.frzs, I.base.tbls⟩, ⟨m, hn.sameBut hs (Ne.symm (cne x c hc)), fun j y v' e1 e2 e3 => ?_⟩, fun y c' e => ?_, I.free, I.freeC, fun p hp => ?_, tracked ⟨oc, hoc, I.freeC x c hc⟩ hs, by simpa using I.len⟩ ⟨c, hs, .inr hc⟩
    · exact (hs.2 b (Nat.ne_of_lt (Nat.lt_of_lt_of_le (Heap.lt_size e) (I.ok.cab x c hfn hc)))).trans (I.base.keep b o e n hb hx)
    · obtain ⟨sl, e1⟩ := I.base.slot b o e n hb hx
      exact ⟨sl, (hs.2 b (Nat.ne_of_lt (Nat.lt_of_lt_of_le (Heap.lt_size e) (I.ok.cab x c hfn hc)))).trans e1⟩
    · obtain ⟨o', e1⟩ := I.base.there b o e hx
      exact ⟨o', (hs.2 b (Nat.ne_of_lt (Nat.lt_of_lt_of_le (Heap.lt_size e) (I.ok.cab x c hfn hc)))).trans e1⟩
    · by_cases hj : j = i
      · subst hj
        rw [hi] at e1; cases e1
        rw [List.getElem?_set_self hiσ] at e2
        cases e2
        exact ⟨u, r, .inr ⟨.inl hk, c, hc, hc'⟩⟩
      · rw [List.getElem?_set_ne (Ne.symm hj)] at e2
        obtain ⟨u', r', q⟩ := hl j y v' e1 e2 e3
        refine ⟨u', r', ?_⟩
        rcases q with q | ⟨k, c', e, z'⟩
        · exact .inl q
        · refine .inr ⟨k, c', e, z'.sameBut hs ?_⟩
          rintro rfl
          exact hj (nodup_ix hN e1 (I.ok.inj _ _ _ e hc ▸ hi))
    · by_cases hcc : c' = c
      · subst hcc; exact ⟨_, hc'⟩
      · obtain ⟨w2, z2⟩ := I.cell y c' e
        exact ⟨w2, z2.sameBut hs hcc⟩
    · obtain ⟨e, n, ne, nf, d⟩ := I.pin p hp
      refine ⟨(hs.2 p.1 ?_).trans e, n, ne, nf, d⟩
      intro q
      rw [q, hoc] at e
      have q' : oc = p.2 := Option.some.inj e
      exact d w' (by rw [← q']; exact hocd)
theorem store_ok {M : Model} {A : Around} {E : Value → Shared → Prop} {i : Nat} {x : Str} {v : V} {u : Value} {Q : Unit → Shared → Prop} (I : Inv X pins σ H s) (hN : X.N.Nodup) (hi : X.N[i]? = some x) (hx : Loc X.env.scope x) (r : RelV v u)
    (h : ∀ s', Inv X pins (σ.set i (some v)) H s' → Q () s') (hf : X.fn x = true ∨ X.env.scope.names.lookup x = some .local := by first | exact .inl rfl | exact .inr rfl | assumption) : wpAny M A (storeName X.env x u) Q E s :=
  store_ok2 I hN hi hx r (fun s' I' _ => h s' I') hf
/-- behind a call or a block, the state as it is -/
theorem Inv.call' {s' : Shared} {ch : List Addr} (I : Inv X pins σ H s) (ho : s'.os = s.os) (u : Un (frs X.stack) ch H H' s.heap s'.heap) (hok : HOk X.prog X.w H' s'.heap) (hg : AllBare s'.gens)
    (hch : ∀ b ∈ ch, (b ∈ X.ex ∨ X.s₀.heap.objs.size ≤ b) ∧ b ≠ X.env.locals ∧ (∀ x c, X.env.cells.lookup x = some c → c ≠ b) ∧ ∀ p ∈ X.pn ++ pins, p.1 ≠ b) : Inv X pins σ H' s' := by
  obtain ⟨h', g', d', t', o'⟩ := s'
  have e : o' = s.os := ho
  subst e
  exact I.call (g' := g') (t' := t') (d' := d') u hok hg hch
end

/-! ### the judgements -/
/-- an exception: its class, its own dict's address (where it has one), the abstract heap behind it -/
abbrev XK := Value → Option Addr → Hp → Prop
abbrev St := List (Option V)
abbrev VK := V → Hp → Prop
/-- an expression's reading; a test's; an argument list's -/
abbrev TE := St → Hp → VK → Prop
abbrev TT := St → Hp → (Bool → Hp → Prop) → Prop
abbrev TA := St → Hp → (List V → Hp → Prop) → Prop
/-- what is wanted behind a statement -/
structure Ends where
  nx : St → Hp → Prop
  rt : VK
  bk : St → Hp → Prop := fun _ _ => False
  ct : St → Hp → Prop := fun _ _ => False
abbrev TS := Ends → St → Hp → Prop

def EP (X : Cx) (pins : List (Addr × Obj)) (σ : St) (Q : VK) (u : Value) (s' : Shared) : Prop := ∃ v H', Inv X pins σ H' s' ∧ RelV v u ∧ Q v H'
def TP (X : Cx) (pins : List (Addr × Obj)) (σ : St) (Q : Bool → Hp → Prop) (b : Bool) (s' : Shared) : Prop := ∃ H', Inv X pins σ H' s' ∧ Q b H'
def AP (X : Cx) (pins : List (Addr × Obj)) (σ : St) (Q : List V → Hp → Prop) (us : List Value) (s' : Shared) : Prop := ∃ vs H', Inv X pins σ H' s' ∧ Vals vs us ∧ Q vs H'
def SP (X : Cx) (pins : List (Addr × Obj)) (D : Ends) (f : Flow) (s' : Shared) : Prop :=
  match f with
  | .next => ∃ σ' H', Inv X pins σ' H' s' ∧ D.nx σ' H'
  | .brk => ∃ σ' H', Inv X pins σ' H' s' ∧ D.bk σ' H'
  | .cont => ∃ σ' H', Inv X pins σ' H' s' ∧ D.ct σ' H'
  | .ret u => ∃ v σ' H', Inv X pins σ' H' s' ∧ RelV v u ∧ D.rt v H'

def PE (X : Cx) (e : Expr) (t : TE) : Prop :=
  ∀ (pins : List (Addr × Obj)) (s : Shared) (σ : St) (H : Hp) (Q : VK), Inv X pins σ H s → t σ H Q → wpAny (model X.prog X.w) X.A (eval e X.env) (EP X pins σ Q) X.xe s
def PT (X : Cx) (e : Expr) (t : TT) : Prop :=
  ∀ (pins : List (Addr × Obj)) (s : Shared) (σ : St) (H : Hp) (Q : Bool → Hp → Prop), Inv X pins σ H s → t σ H Q → wpAny (model X.prog X.w) X.A (isTrue e X.env (eval e X.env)) (TP X pins σ Q) X.xe s
/-- a test whatever its 'whole' is (and, or) -/
def PW (X : Cx) (e : Expr) (t : TT) : Prop :=
  ∀ (whole : Sem Value) (pins : List (Addr × Obj)) (s : Shared) (σ : St) (H : Hp) (Q : Bool → Hp → Prop), Inv X pins σ H s → t σ H Q → wpAny (model X.prog X.w) X.A (isTrue e X.env whole) (TP X pins σ Q) X.xe s
theorem PW.pt {X : Cx} {e : Expr} {t : TT} (h : PW X e t) : PT X e t := h _
/-- an argument list (no star), from the left -/
def PA (X : Cx) (es : List Expr) (t : TA) : Prop :=
  ∀ (pos : Pos) (pins : List (Addr × Obj)) (s : Shared) (σ : St) (H : Hp) (Q : List V → Hp → Prop), Inv X pins σ H s → t σ H Q → wpAny (model X.prog X.w) X.A (spliced (backTo pos (starEach es X.env))) (AP X pins σ Q) X.xe s
def PS (X : Cx) (st : Stmt) (t : TS) : Prop :=
  ∀ (pins : List (Addr × Obj)) (s : Shared) (σ : St) (H : Hp) (D : Ends), Inv X pins σ H s → t D σ H → wpAny (model X.prog X.w) X.A (exec st X.env) (SP X pins D) X.xe s
def PSs (X : Cx) (st : List Stmt) (t : TS) : Prop :=
  ∀ (pins : List (Addr × Obj)) (s : Shared) (σ : St) (H : Hp) (D : Ends), Inv X pins σ H s → t D σ H → wpAny (model X.prog X.w) X.A (execs st X.env) (SP X pins D) X.xe s
/-- weaken the end -/
theorem thn {α : Type} {t : Sem α} {Q Q' : α → Shared → Prop} {M : Model} {A : Around} {E : Value → Shared → Prop} {s : Shared} (h : wpAny M A t Q E s) (hQ : ∀ a s, Q a s → Q' a s) : wpAny M A t Q' E s := wpAny_mono h hQ fun _ _ x => x
end L2

namespace L2
open PySem PySem.Spec PyProof.Rows
section
variable {X : Cx}


/-! ### names and constants -/
def tVar (i : Nat) : TE := fun σ H Q => ∃ v, σ[i]? = some (some v) ∧ Q v H
def tC (v : V) : TE := fun _ H Q => Q v H
theorem pe_var {i : Nat} {x : Str} {pos : Pos} (hN : X.N[i]? = some x) (hv : Vis X.env.scope x) (hd : (x == ("__debug__" : Str)) = false := by decide) (hcd : (x == ("__classdict__" : Str)) = false := by decide) : PE X (.Name x pos) (tVar i) := by
  intro pins s σ H Q I h
  obtain ⟨v, e, h⟩ := h
  obtain ⟨m, hn, hl⟩ := I.loc
  obtain ⟨u, r, l⟩ := hl i x v hN e hv
  have fin : EP X pins σ Q u s := ⟨v, H, I, r, h⟩
  rcases l with ⟨hk, hm⟩ | ⟨hk, c, hc, hcell⟩
  · exact wpAny_Name (wpAny_loadName_local I.ok.kind hk hn hm fin) hd
  · rcases hk with hk | hk
    · exact wpAny_Name (wpAny_loadName_cell I.ok.kind hk hc hcell fin) hd
    · exact wpAny_Name (wpAny_loadName_free I.ok.kind hk hc hcell fin hcd) hd
theorem pe_int {i j pos} : PE X (.Constant (.int i) j pos) (tC (.int i)) := fun _ _ _ H _ I h => wpAny_Constant_int ⟨.int i, H, I.tok _, ⟨_, rfl⟩, h⟩
theorem pe_bl {b j pos} : PE X (.Constant (.bool b) j pos) (tC (.bl b)) := fun _ _ _ H _ I h => Constant_bool ⟨.bl b, H, I, rfl, h⟩
theorem pe_non {j pos} : PE X (.Constant .none j pos) (tC .non) := fun _ _ _ H _ I h => Constant_none ⟨.non, H, I, rfl, h⟩
theorem pe_str {x j pos} : PE X (.Constant (.str x) j pos) (tC (.str x)) := fun _ _ _ H _ I h => Calls.Constant_str ⟨.str x, H, I.tok _, ⟨_, rfl⟩, h⟩

/-- a global name of the def -/
def Gl (X : Cx) (x : Str) : Prop := X.env.kindOf x = some .globalImplicit
theorem ld_glob {E : Value → Shared → Prop} {pins : List (Addr × Obj)} {s : Shared} {σ : St} {H : Hp} {x : Str} {u : Value} {pos : Pos} {Q : Value → Shared → Prop} (I : Inv X pins σ H s) (hg : Gl X x) (hm : X.mg x = some u) (h : Q u s)
    (hd : (x == ("__debug__" : Str)) = false := by decide) : wpAny (model X.prog X.w) X.A (eval (.Name x pos) X.env) Q E s :=
  Calls.Name_function_global I.ok.kind hg (Calls.loadGlobal_global (by rw [I.ok.glob]; exact I.mod.glob.keeps I.bk) hm h) hd
theorem ld_blt {E : Value → Shared → Prop} {pins : List (Addr × Obj)} {s : Shared} {σ : St} {H : Hp} {x : Str} {u : Value} {pos : Pos} {Q : Value → Shared → Prop} (I : Inv X pins σ H s) (hg : Gl X x) (hm : X.mg x = none) (hv : bootBuiltins x = some u) (h : Q u s)
    (hn : x ≠ "__name__" := by decide) (hd : (x == ("__debug__" : Str)) = false := by decide) : wpAny (model X.prog X.w) X.A (eval (.Name x pos) X.env) Q E s := by
  obtain ⟨mb, h1, h2⟩ := I.mod.blt
  exact Calls.Name_function_global I.ok.kind hg (Calls.loadGlobal_builtin (by rw [I.ok.glob]; exact I.mod.glob.keeps I.bk) hm (by rw [I.ok.blt]; exact h1.keeps I.bk) ((h2 x hn).trans hv) h) hd
theorem pe_bltn {x : Str} {v : V} {u : Value} {pos : Pos} (hg : Gl X x) (hm : X.mg x = none) (hv : bootBuiltins x = some u) (r : RelV v u) (hn : x ≠ "__name__" := by decide) (hd : (x == ("__debug__" : Str)) = false := by decide) : PE X (.Name x pos) (tC v) :=
  fun _ _ _ H _ I h => ld_blt I hg hm hv ⟨v, H, I, r, h⟩ hn hd

/-! ### arithmetic -/
/-- two ints -/
def t2I (ta tb : TE) (k : Int → Int → Hp → Prop) : St → Hp → Prop := fun σ H => ta σ H fun x H1 => tb σ H1 fun y H2 => ∃ i j, x = .int i ∧ y = .int j ∧ k i j H2
def tAdd (ta tb : TE) : TE := fun σ H Q => t2I ta tb (fun i j H2 => Q (.int (i + j)) H2) σ H
def tSub (ta tb : TE) : TE := fun σ H Q => t2I ta tb (fun i j H2 => Q (.int (i - j)) H2) σ H
/-- the left factor below 2^64 -/
def tMul (ta tb : TE) : TE := fun σ H Q => t2I ta tb (fun i j H2 => (-(2 ^ 64) < i ∧ i < 2 ^ 64) ∧ Q (.int (i * j)) H2) σ H
variable {a b : Expr} {ta tb : TE} {pos : Pos}

/-! ### comparisons -/
def PC (X : Cx) (op : CmpOp) (a b : Expr) (t : TE) : Prop :=
  ∀ (pins : List (Addr × Obj)) (s : Shared) (σ : St) (H : Hp) (Q : VK), Inv X pins σ H s → t σ H Q →
    wpAny (model X.prog X.w) X.A (eval a X.env) (fun v s₁ => wpAny (model X.prog X.w) X.A (eval b X.env) (fun u s₂ => wpAny (model X.prog X.w) X.A (compareOp op v u) (EP X pins σ Q) X.xe s₂) X.xe s₁) X.xe s
def tCmp (p : Int → Int → Bool) (ta tb : TE) : TE := fun σ H Q => t2I ta tb (fun i j H2 => Q (.bl (p i j)) H2) σ H
abbrev tLt : TE → TE → TE := tCmp fun i j => decide (i < j)
abbrev tLe : TE → TE → TE := tCmp fun i j => decide (i ≤ j)
abbrev tGt : TE → TE → TE := tCmp fun i j => decide (j < i)
abbrev tGe : TE → TE → TE := tCmp fun i j => decide (j ≤ i)
abbrev tEqI : TE → TE → TE := tCmp fun i j => decide (i = j)
abbrev tNeI : TE → TE → TE := tCmp fun i j => !decide (i = j)
/-- is None -/
def tIsN (ta : TE) : TE := fun σ H Q => ta σ H fun x H1 => Q (.bl (decide (x = .non))) H1
def tNotN (ta : TE) : TE := fun σ H Q => ta σ H fun x H1 => Q (.bl (!decide (x = .non))) H1
/-- a comparison as a value, as a test -/
def tB (t : TE) : TT := fun σ H Q => t σ H fun x H1 => ∃ c, x = .bl c ∧ Q c H1
theorem pt_cmp {op : CmpOp} {t : TE} (h : PC X op a b t) (h1 : behindInMarks op b = false := by first | exact nobehind _ (by decide) (by decide) | rfl) : PT X (.Compare a [op] [b] pos) (tB t) := by
  intro pins s σ H Q I hw
  refine wpAny_isTrue_Compare1 (thn (h pins s σ H _ I hw) fun v s1 h1 => thn h1 fun u s2 h2 => thn h2 fun c s3 ⟨x, H1, I1, r1, q1⟩ => ?_) h1
  obtain ⟨d, rfl, q⟩ := q1
  cases r1
  exact wpAny_truthy_bool ⟨H1, I1, q⟩
/-- an expression whose value is a bool, as a test -/
theorem pt_val {e : Expr} {t : TE} (h : PE X e t) (he : ∀ whole, isTrue e X.env whole = (do let v ← whole; standAt e.pos; holding [v] (truthy v)) := by intro _; rfl) : PT X e (tB t) := by
  intro pins s σ H Q I hw
  refine isTrue_plain (thn (h pins s σ H _ I hw) fun v s1 ⟨x, H1, I1, r1, q1⟩ => ?_) (he _)
  obtain ⟨d, rfl, q⟩ := q1
  cases r1
  exact wpAny_truthy_bool ⟨H1, I1, q⟩

/-! ### and, or, not -/
variable {tA tB' : TT} {rest : List Expr}
def tAnd (t u : TT) : TT := fun σ H Q => t σ H fun c H1 => if c = true then u σ H1 Q else Q false H1
def tOr (t u : TT) : TT := fun σ H Q => t σ H fun c H1 => if c = true then Q true H1 else u σ H1 Q
def tNot (t : TT) : TT := fun σ H Q => t σ H fun c H1 => Q (!c) H1
theorem pw_and1 (ha : PT X a tA) : PW X (.BoolOp .And [a] pos) tA := by
  intro wh pins s σ H Q I h
  refine isTrue_and (thn (ha pins s σ H Q I h) fun c s1 e => ?_)
  cases c with
  | true => exact isTrue_and_nil e
  | false => exact e
theorem pw_or1 (ha : PT X a tA) : PW X (.BoolOp .Or [a] pos) tA := by
  intro wh pins s σ H Q I h
  refine isTrue_or (thn (ha pins s σ H Q I h) fun c s1 e => ?_)
  cases c with
  | false => exact isTrue_or_nil e
  | true => exact e
theorem pw_and (ha : PT X a tA) (hb : PW X (.BoolOp .And (b :: rest) pos) tB') : PW X (.BoolOp .And (a :: b :: rest) pos) (tAnd tA tB') := by
  intro wh pins s σ H Q I h
  refine isTrue_and (thn (ha pins s σ H _ I h) fun c s1 ⟨H1, I1, q1⟩ => ?_)
  cases c with
  | true => exact hb wh pins s1 σ H1 Q I1 q1
  | false => exact ⟨H1, I1, q1⟩
theorem pw_or (ha : PT X a tA) (hb : PW X (.BoolOp .Or (b :: rest) pos) tB') : PW X (.BoolOp .Or (a :: b :: rest) pos) (tOr tA tB') := by
  intro wh pins s σ H Q I h
  refine isTrue_or (thn (ha pins s σ H _ I h) fun c s1 ⟨H1, I1, q1⟩ => ?_)
  cases c with
  | true => exact ⟨H1, I1, q1⟩
  | false => exact hb wh pins s1 σ H1 Q I1 q1
theorem pt_not (ha : PT X a tA) : PT X (.UnaryOp .Not a pos) (tNot tA) := by
  intro pins s σ H Q I h
  exact isTrue_not (ha pins s σ H (fun c H1 => Q (!c) H1) I h)
/-- .. as values (bools) -/
def tAndV (ta tb : TE) : TE := fun σ H Q => ta σ H fun x H1 => ∃ c, x = .bl c ∧ if c = true then tb σ H1 Q else Q (.bl false) H1
def tOrV (ta tb : TE) : TE := fun σ H Q => ta σ H fun x H1 => ∃ c, x = .bl c ∧ if c = true then Q (.bl true) H1 else tb σ H1 Q
def tNotV (ta : TE) : TE := fun σ H Q => ta σ H fun x H1 => ∃ c, x = .bl c ∧ Q (.bl (!c)) H1
theorem pe_one {op} {t : TE} (h : PE X a t) : PE X (.BoolOp op [a] pos) t := fun pins s σ H Q I hw => BoolOp_one (h pins s σ H Q I hw)
theorem pe_and (ha : PE X a ta) (hb : PE X (.BoolOp .And (b :: rest) pos) tb) : PE X (.BoolOp .And (a :: b :: rest) pos) (tAndV ta tb) := by
  intro pins s σ H Q I h
  refine BoolOp_and (thn (ha pins s σ H _ I h) fun v s1 ⟨x, H1, I1, r1, q1⟩ => ?_)
  obtain ⟨c, rfl, q1⟩ := q1
  cases r1
  refine wpAny_truthy_bool ?_
  cases c with
  | true => exact hb pins s1 σ H1 Q I1 q1
  | false => exact ⟨.bl false, H1, I1, rfl, q1⟩
theorem pe_not (ha : PE X a ta) : PE X (.UnaryOp .Not a pos) (tNotV ta) := by
  intro pins s σ H Q I h
  refine UnaryOp_ (thn (ha pins s σ H _ I h) fun v s1 ⟨x, H1, I1, r1, q1⟩ => ?_)
  obtain ⟨c, rfl, q1⟩ := q1
  cases r1
  exact not_of (wpAny_truthy_bool ⟨.bl (!c), H1, I1, rfl, q1⟩)
/-- a if t else b -/
def tIf (t : TT) (ta tb : TE) : TE := fun σ H Q => t σ H fun c H1 => if c = true then ta σ H1 Q else tb σ H1 Q
theorem pe_ifExp {c : Expr} (hc : PT X c tA) (ha : PE X a ta) (hb : PE X b tb) : PE X (.IfExp c a b pos) (tIf tA ta tb) := by
  intro pins s σ H Q I h
  refine wpAny_IfExp (thn (hc pins s σ H _ I h) fun d s1 ⟨H1, I1, q1⟩ => ?_)
  cases d with
  | true => exact ha pins s1 σ H1 Q I1 q1
  | false => exact hb pins s1 σ H1 Q I1 q1
end
end L2

namespace L2
open PySem PySem.Spec PyProof.Rows

/-! ### a list, a tuple that is read: tracked, frozen, or an object of the module -/
def SqL (K : PySem.W.Frag) (H : Hp) (a : Addr) (xs : List V) : Prop :=
  Rd H a (.lst xs) ∨
    ∃ (o : Obj) (its : Array Value) (n : Nat), K.lookup a = some o ∧ o.cls = .type "list" ∧ o.dict = none ∧ o.data = .seq its n ∧ its.size ≤ sizeLine ∧ Vals xs its.toList
def SqT (K : PySem.W.Frag) (H : Hp) (a : Addr) (xs : List V) : Prop :=
  Rd H a (.tup xs) ∨
    ∃ (o : Obj) (its : Array Value) (n : Nat), K.lookup a = some o ∧ o.cls = .type "tuple" ∧ o.data = .seq its n ∧ its.size ≤ sizeLine ∧ Vals xs its.toList
def absV : Value → Option V
  | .none => some .non
  | .bool b => some (.bl b)
  | .int i _ => some (.int i)
  | .str x _ => some (.str x)
  | .bytes b _ => some (.byt b)
  | .float b _ => some (.flt b)
  | .ref a => some (.ref a)
  | .type n => some (.ty n)
  | _ => none
theorem RelV.abs {x : V} {u : Value} (r : RelV x u) : absV u = some x := by
  cases x with
  | non => cases r; rfl
  | bl _ => cases r; rfl
  | int _ => obtain ⟨t, rfl⟩ := r; rfl
  | str _ => obtain ⟨t, rfl⟩ := r; rfl
  | byt _ => obtain ⟨t, rfl⟩ := r; rfl
  | flt _ => obtain ⟨t, rfl⟩ := r; rfl
  | ref _ => cases r; rfl
  | ty _ => cases r; rfl
theorem RelV.inj {x y : V} {u : Value} (r : RelV x u) (q : RelV y u) : x = y := Option.some.inj (r.abs.symm.trans q.abs)
theorem Vals.inj : ∀ {xs ys : List V} {us : List Value}, Vals xs us → Vals ys us → xs = ys
  | _, _, _, .nil, .nil => rfl
  | _, _, _, .cons r t, .cons r' t' => by rw [r.inj r', Vals.inj t t']
section
variable {X : Cx} {pins : List (Addr × Obj)} {σ : St} {H : Hp} {s : Shared} {a : Addr} {xs ys : List V}
theorem SqL.of {K : PySem.W.Frag} (h : H a = some (.lst xs)) : SqL K H a xs := .inl (.inl h)
theorem SqT.of {K : PySem.W.Frag} (h : H a = some (.tup xs)) : SqT K H a xs := .inl (.inl h)
theorem Inv.list (I : Inv X pins σ H s) (h : SqL X.K H a xs) : ∃ its : List Value, Vals xs its ∧ PlainL s.heap a its.toArray ∧ xs.length ≤ sizeLine := by
  rcases h with h | ⟨o, its, n, hk, hc, hd, hs, hz, r⟩
  · obtain ⟨z, its, n, r, e⟩ := h.ok I.hok
    exact ⟨its, r, ⟨_, n, e, rfl, rfl, rfl⟩, z⟩
  · refine ⟨its.toList, r, ⟨o, n, I.kIn a o hk, hc, hd, by simpa using hs⟩, ?_⟩
    have e := r.length
    simp only [Array.length_toList] at e
    omega
theorem Inv.tuple (I : Inv X pins σ H s) (h : SqT X.K H a xs) : ∃ its : List Value, Vals xs its ∧ IsTup s.heap a its.toArray ∧ xs.length ≤ sizeLine := by
  rcases h with h | ⟨o, its, n, hk, hc, hs, hz, r⟩
  · obtain ⟨z, its, r, p⟩ := h.ok I.hok
    exact ⟨its, r, p, z⟩
  · refine ⟨its.toList, r, ⟨o, I.kIn a o hk, hc, n, by simpa using hs⟩, ?_⟩
    have e := r.length
    simp only [Array.length_toList] at e
    omega
theorem Inv.list_inj (I : Inv X pins σ H s) (h : SqL X.K H a xs) (h' : SqL X.K H a ys) : xs = ys := by
  obtain ⟨its, r, ⟨o, n, e, _, _, d⟩, _⟩ := I.list h
  obtain ⟨its', r', ⟨o', n', e', _, _, d'⟩, _⟩ := I.list h'
  rw [e] at e'; cases e'
  rw [d] at d'
  injection d' with d1 _
  have : its = its' := by simpa using congrArg Array.toList d1
  subst this
  exact r.inj r'
end

/-! ### another wish about exceptions -/
abbrev Cx.wish (X : Cx) (E : Value → Shared → Prop) : Cx := { X with xe := E }
/-- no exception leaves -/
abbrev Cx.nox (X : Cx) : Cx := X.wish fun _ _ => False
theorem Cx.Ok.wish {X : Cx} (ok : X.Ok) (E : Value → Shared → Prop) : (X.wish E).Ok :=
  ⟨ok.mod, ok.kind, ok.glob, ok.blt, ok.above, ok.inj, ok.has, ok.cab, ok.hd, ok.frames, ok.stk, ok.exf, ok.bs, ok.bsz, ok.noex, ok.exfs, ok.funs, ok.frf⟩
theorem Cx.Ok.unwish {X : Cx} {E : Value → Shared → Prop} (ok : (X.wish E).Ok) : X.Ok :=
  ⟨ok.mod, ok.kind, ok.glob, ok.blt, ok.above, ok.inj, ok.has, ok.cab, ok.hd, ok.frames, ok.stk, ok.exf, ok.bs, ok.bsz, ok.noex, ok.exfs, ok.funs, ok.frf⟩
section
variable {X : Cx} {pins : List (Addr × Obj)} {σ : St} {H : Hp} {s : Shared} {E : Value → Shared → Prop}
theorem Inv.wish (I : Inv X pins σ H s) (E : Value → Shared → Prop) : Inv (X.wish E) pins σ H s := ⟨I.ok.wish E, I.os, I.bare, I.base, I.loc, I.cell, I.free, I.freeC, I.pin, I.hok, I.len⟩
theorem Inv.unwish (I : Inv (X.wish E) pins σ H s) : Inv X pins σ H s := ⟨I.ok.unwish, I.os, I.bare, I.base, I.loc, I.cell, I.free, I.freeC, I.pin, I.hok, I.len⟩
theorem SP.unwish {D : Ends} {f : Flow} {s' : Shared} (h : SP (X.wish E) pins D f s') : SP X pins D f s' := by
  cases f with
  | next => obtain ⟨σ', H', I, q⟩ := h; exact ⟨σ', H', I.unwish, q⟩
  | brk => obtain ⟨σ', H', I, q⟩ := h; exact ⟨σ', H', I.unwish, q⟩
  | cont => obtain ⟨σ', H', I, q⟩ := h; exact ⟨σ', H', I.unwish, q⟩
  | ret u => obtain ⟨v, σ', H', I, r, q⟩ := h; exact ⟨v, σ', H', I.unwish, r, q⟩
theorem PSs.nox {st : List Stmt} {t : TS} (h : PSs X.nox st t) : PSs X st t := fun pins s σ H D I hw =>
  wpAny_mono (h pins s σ H D (I.wish _) hw) (fun _ _ q => q.unwish) fun _ _ z => False.elim z
end

/-! ### blocks and small statements -/
section
variable {X : Cx} {st : Stmt} {rest : List Stmt} {t u : TS} {e : Expr} {te : TE} {pos : Pos}
def tNext : TS := fun D σ H => D.nx σ H
def tSeq (t u : TS) : TS := fun D σ H => t { D with nx := u D } σ H
theorem pss_nil : PSs X [] tNext := fun _ _ σ H _ I h => wpAny_execs_nil ⟨σ, H, I, h⟩
theorem pss_cons (h1 : PS X st t) (h2 : PSs X rest u) : PSs X (st :: rest) (tSeq t u) := by
  intro pins s σ H D I h
  refine wpAny_execs_cons (thn (h1 pins s σ H { D with nx := u D } I h) fun f s1 q => ?_)
  cases f with
  | next =>
    obtain ⟨σ', H', I', q⟩ := q
    exact h2 pins s1 σ' H' D I' q
  | ret v => exact q
  | brk => exact q
  | cont => exact q
theorem pss_one (h1 : PS X st t) : PSs X [st] t := by
  intro pins s σ H D I h
  refine wpAny_execs_cons (thn (h1 pins s σ H D I h) fun f s1 q => ?_)
  cases f with
  | next => exact wpAny_execs_nil q
  | ret v => exact q
  | brk => exact q
  | cont => exact q
def tBreak : TS := fun D σ H => D.bk σ H
def tCont : TS := fun D σ H => D.ct σ H
/-- in a def's body nothing is shown -/
theorem Inv.quiet {pins : List (Addr × Obj)} {σ : St} {H : Hp} {s : Shared} (I : Inv X pins σ H s) : interactive X.env = false := by simp [interactive, I.ok.kind]
/-- an expression whose value is dropped -/
def tDrop (te : TE) : TS := fun D σ H => te σ H fun _ H1 => D.nx σ H1
theorem ps_expr (he : PE X e te) (hs : swapsWith e none pos.line X.env = pure false := by rfl) : PS X (.Expr e pos) (tDrop te) := by
  intro pins s σ H D I h
  exact wpAny_Expr_any (thn (he pins s σ H _ I h) fun v s1 ⟨x, H1, I1, r1, q1⟩ => ⟨σ, H1, I1, q1⟩) I.quiet hs
def tRet (te : TE) : TS := fun D σ H => te σ H D.rt
theorem ps_ret (he : PE X e te) : PS X (.Return (some e) pos) (tRet te) := by
  intro pins s σ H D I h
  exact wpAny_Return_some (thn (he pins s σ H _ I h) fun v s1 ⟨x, H1, I1, r1, q1⟩ => ⟨x, σ, H1, I1, r1, q1⟩)
def tRetN : TS := fun D _ H => D.rt .non H
theorem ps_retN : PS X (.Return none pos) tRetN := fun _ _ σ H _ I h => wpAny_Return_none ⟨.non, σ, H, I, rfl, h⟩
def tIfS (c : TT) (t u : TS) : TS := fun D σ H => c σ H fun b H1 => if b = true then t D σ H1 else u D σ H1
theorem ps_if {c : Expr} {a b : List Stmt} {tc : TT} (hc : PT X c tc) (ha : PSs X a t) (hb : PSs X b u) : PS X (.If c a b pos) (tIfS tc t u) := by
  intro pins s σ H D I h
  refine wpAny_If (thn (hc pins s σ H _ I h) fun d s1 ⟨H1, I1, q1⟩ => ?_)
  cases d with
  | true => exact ha pins s1 σ H1 D I1 q1
  | false => exact hb pins s1 σ H1 D I1 q1
/-- code that the proof never comes to -/
def tNever : TS := fun _ _ _ => False
end

/-! ### targets -/
abbrev TG := V → St → Hp → (St → Hp → Prop) → Prop
abbrev TGs := List V → St → Hp → (St → Hp → Prop) → Prop
def PG (X : Cx) (target : Expr) (t : TG) : Prop :=
  ∀ (pins : List (Addr × Obj)) (s : Shared) (σ : St) (H : Hp) (v : V) (u : Value) (Q : St → Hp → Prop), Inv X pins σ H s → RelV v u → t v σ H Q →
    wpAny (model X.prog X.w) X.A (assign target X.env u) (fun _ s' => ∃ σ' H', Inv X pins σ' H' s' ∧ Q σ' H') X.xe s
/-- several targets, one after another -/
def PGs (X : Cx) (ts : List Expr) (t : TGs) : Prop :=
  ∀ (pins : List (Addr × Obj)) (s : Shared) (σ : St) (H : Hp) (vs : List V) (us : List Value) (Q : St → Hp → Prop), Inv X pins σ H s → Vals vs us → t vs σ H Q →
    wpAny (model X.prog X.w) X.A (assignInOrder ((assignEach ts X.env).map (·.2)) us) (fun _ s' => ∃ σ' H', Inv X pins σ' H' s' ∧ Q σ' H') X.xe s
/-- o[i] = v, by values -/
abbrev TSet := V → V → V → Hp → (Hp → Prop) → Prop
def PSet (X : Cx) (t : TSet) : Prop :=
  ∀ (pins : List (Addr × Obj)) (s : Shared) (σ : St) (H : Hp) (o i v : V) (ov iv u : Value) (Q : Hp → Prop), Inv X pins σ H s → RelV o ov → RelV i iv → RelV v u → t o i v H Q →
    wpAny (model X.prog X.w) X.A (setItem ov iv u) (fun _ s' => ∃ H', Inv X pins σ H' s' ∧ Q H') X.xe s
/-- a op= b, by values -/
abbrev TIp := V → V → Hp → VK → Prop
def PIp (X : Cx) (op : Operator) (t : TIp) : Prop :=
  ∀ (pins : List (Addr × Obj)) (s : Shared) (σ : St) (H : Hp) (x y : V) (v u : Value) (Q : VK), Inv X pins σ H s → RelV x v → RelV y u → t x y H Q →
    wpAny (model X.prog X.w) X.A (inplaceOp op v u) (EP X pins σ Q) X.xe s
section
variable {X : Cx} {pos : Pos}
def gName (i : Nat) : TG := fun v σ H Q => Q (σ.set i (some v)) H
theorem pg_name {i : Nat} {x : Str} (hN : X.N.Nodup) (hi : X.N[i]? = some x) (hx : Loc X.env.scope x) (hf : X.fn x = true ∨ X.env.scope.names.lookup x = some .local := by first | exact .inl rfl | exact .inr rfl | assumption) : PG X (.Name x pos) (gName i) := by
  intro pins s σ H v u Q I r h
  exact wpAny_assign_Name (store_ok I hN hi hx r (fun s' I' => ⟨_, H, I', h⟩) hf)
def gNil : TGs := fun vs σ H Q => vs = [] ∧ Q σ H
def gCons (t : TG) (u : TGs) : TGs := fun vs σ H Q => ∃ v r, vs = v :: r ∧ t v σ H fun σ' H' => u r σ' H' Q
theorem pgs_nil : PGs X [] gNil := by
  intro pins s σ H vs us Q I r h
  obtain ⟨e, h⟩ := h
  subst e
  cases r
  exact assignInOrder_nil ⟨σ, H, I, h⟩
theorem pgs_cons {e : Expr} {es : List Expr} {t : TG} {u : TGs} (h1 : PG X e t) (h2 : PGs X es u)
    (hs : (assignEach (e :: es) X.env).map (·.2) = assign e X.env :: (assignEach es X.env).map (·.2) := by rfl) : PGs X (e :: es) (gCons t u) := by
  intro pins s σ H vs us Q I r h
  obtain ⟨v, vr, e1, h⟩ := h
  subst e1
  cases r with
  | cons r rr =>
    rw [hs]
    refine assignInOrder_cons (thn (h1 pins s σ H _ _ _ I r h) fun _ s1 ⟨σ1, H1, I1, q1⟩ => ?_)
    exact h2 pins s1 σ1 H1 _ _ Q I1 rr q1
/-- (a, b, ..) = a tuple of that length -/
def gTup (K : PySem.W.Frag) (n : Nat) (t : TGs) : TG := fun v σ H Q => ∃ a xs, v = .ref a ∧ SqT K H a xs ∧ xs.length = n ∧ t xs σ H Q
theorem pg_tup {es : List Expr} {k : Nat} {t : TGs} {n : Nat} (hc : X.calm = true) (h : PGs X es t)
    (hn : (assignEach es X.env).length = n := by rfl) (hst : (assignEach es X.env).findIdx? (·.1) = none := by rfl) : PG X (.Tuple es k pos) (gTup X.K n t) := by
  intro pins s σ H v u Q I r hw
  obtain ⟨a, xs, e1, hq, hl, hw⟩ := hw
  subst e1
  cases r
  obtain ⟨its, rv, ht, hz⟩ := I.tuple hq
  refine assign_Tuple_tuple (I.ok.hd hc) ht (by simp [hn, ← hl, rv.length]) hst fun h' hx => ?_
  have I1 : Inv X pins σ H { s with heap := h' } := I.kept (t' := s.toks) fun b o e => hx b o (Nat.ne_of_lt (Heap.lt_size e)) e
  exact h pins _ σ H xs _ Q I1 (by simpa using rv) hw
/-- o[i] = .. -/
def gSub (to ti : TE) (t : TSet) : TG := fun v σ H Q => to σ H fun o H1 => ti σ H1 fun i H2 => t o i v H2 fun H3 => Q σ H3
/-- target = value -/
def tAsg (te : TE) (g : TG) : TS := fun D σ H => te σ H fun x H1 => g x σ H1 D.nx
theorem ps_asg {tg e : Expr} {te : TE} {g : TG} (he : PE X e te) (hg : PG X tg g) (hs : swapsWithSole [tg] e pos.line X.env = pure false := by rfl) (hw : swappedStores [tg] e X.env = pure none := by rfl)
    (h1 : (assignEach [tg] X.env).map (·.2) = [assign tg X.env] := by rfl) : PS X (.Assign [tg] e pos) (tAsg te g) := by
  intro pins s σ H D I h
  refine wpAny_Assign_stores (thn (he pins s σ H _ I h) fun v s1 ⟨x, H1, I1, r1, q1⟩ => ?_) hs hw
  rw [h1]
  exact thn (hg pins s1 σ H1 x v _ I1 r1 q1) fun _ s2 q => q
/-- name = value -/
theorem ps_set {i : Nat} {x : Str} {e : Expr} {te : TE} {pos' : Pos} (hN : X.N.Nodup) (hi : X.N[i]? = some x) (hx : Loc X.env.scope x) (he : PE X e te) (hs : swapsWith e (some (.Name x pos')) pos.line X.env = pure false := by rfl) (hf : X.fn x = true ∨ X.env.scope.names.lookup x = some .local := by first | exact .inl rfl | exact .inr rfl | assumption) :
    PS X (.Assign [.Name x pos'] e pos) (tAsg te (gName i)) := by
  intro pins s σ H D I h
  refine wpAny_Assign_Name (thn (he pins s σ H _ I h) fun v s1 ⟨y, H1, I1, r1, q1⟩ => ?_) hs
  exact store_ok I1 hN hi hx r1 (fun s2 I2 => ⟨_, H1, I2, q1⟩) hf
/-- a, b = x, y with plain local names: stored from the right; the pair itself is not tracked (the opening rows as in PyProof/Rows/TupAssign.lean:23) -/
def tPar (i j : Nat) (ta : TA) : TS := fun D σ H => ta σ H fun vs H1 => ∃ v w, vs = [v, w] ∧ D.nx ((σ.set i (some v)).set j (some w)) H1
/-- name op= e -/
def tAug (i : Nat) (te : TE) (ti : TIp) : TS := fun D σ H => ∃ x, σ[i]? = some (some x) ∧ te σ H fun y H1 => ti x y H1 fun z H2 => D.nx (σ.set i (some z)) H2
/-- o[i] op= e -/
def tAugS (to ti te : TE) (tget : V → V → Hp → VK → Prop) (tip : TIp) (tset : TSet) : TS := fun D σ H => to σ H fun o H1 => ti σ H1 fun i H2 => tget o i H2 fun x H3 => te σ H3 fun y H4 => tip x y H4 fun z H5 => tset o i z H5 fun H6 => D.nx σ H6
/-- o[i], by values -/
def PGet (X : Cx) (t : V → V → Hp → VK → Prop) : Prop :=
  ∀ (pins : List (Addr × Obj)) (s : Shared) (σ : St) (H : Hp) (o i : V) (ov iv : Value) (Q : VK), Inv X pins σ H s → RelV o ov → RelV i iv → t o i H Q →
    wpAny (model X.prog X.w) X.A (getItem ov iv) (EP X pins σ Q) X.xe s
/-- ints -/
def ipI (f : Int → Int → Int) : TIp := fun x y H Q => ∃ i j, x = .int i ∧ y = .int j ∧ Q (.int (f i j)) H
end

/-! ### while -/
section
variable {X : Cx} {pos : Pos}
/-- the invariant W with its measure -/
def tWhile (c : TT) (tb : TS) : TS := fun D σ H => ∃ W : Nat → St → Hp → Prop, (∃ m, W m σ H) ∧ ∀ m σ H, W m σ H →
  c σ H fun b H1 => if b = true then ∃ N : St → Hp → Prop, (∀ σ' H', N σ' H' → ∃ m', m' < m ∧ W m' σ' H') ∧ tb { D with nx := N, ct := N, bk := D.nx } σ H1 else D.nx σ H1
theorem ps_while {c : Expr} {body : List Stmt} {tc : TT} {tb : TS} (hp : PassesOwn (model X.prog X.w) X.A X.env X.xe) (hc : PT X c tc) (hb : PSs X body tb) : PS X (.While c body [] pos) (tWhile tc tb) := by
  intro pins s σ H D I h
  obtain ⟨W, ⟨m0, w0⟩, turn⟩ := h
  refine wpAny_While (codeAny_whileLoop (fun n s' => ∃ σ' H', Inv X pins σ' H' s' ∧ W n σ' H') ?_ m0 ⟨σ, H, I, w0⟩)
  rintro n s1 ⟨σ1, H1, I1, w1⟩
  refine wpAny_passesOwn hp (thn (hc pins s1 σ1 H1 _ I1 (turn n σ1 H1 w1)) fun b s2 ⟨H2, I2, q2⟩ => ?_)
  cases b with
  | true =>
    obtain ⟨N, hN, q2⟩ := q2
    rw [if_pos rfl]
    refine wpAny_passesOwn hp (thn (hb pins s2 σ1 H2 _ I2 q2) fun f s3 q3 => ?_)
    cases f with
    | next =>
      obtain ⟨σ3, H3, I3, n3⟩ := q3
      obtain ⟨m', hm, w3⟩ := hN σ3 H3 n3
      exact ⟨m', hm, σ3, H3, I3, w3⟩
    | cont =>
      obtain ⟨σ3, H3, I3, n3⟩ := q3
      obtain ⟨m', hm, w3⟩ := hN σ3 H3 n3
      exact ⟨m', hm, σ3, H3, I3, w3⟩
    | brk => exact q3
    | ret v => exact q3
  | false =>
    rw [if_neg Bool.false_ne_true]
    exact wpAny_execs_nil ⟨σ1, H2, I2, q2⟩
end

/-! ### what a loop or a comprehension walks -/
/-- at turn i: it yields x (the heap may grow), or it stops -/
structure It where
  go : Nat → Hp → Prop
  yld : Nat → Hp → V → Hp → Prop
  stop : Nat → Hp → Prop
/-- the iterator's own objects may turn: they are not the frame's, not pinned, younger than the entry (or a comprehension's own) -/
def FpOk (X : Cx) (pins : List (Addr × Obj)) (H : Hp) (b : Addr) : Prop :=
  H b = none ∧ b ≠ X.env.locals ∧ b ∉ X.fs ∧ (b ∈ X.ex ∨ X.s₀.heap.objs.size ≤ b) ∧ (∀ x c, X.env.cells.lookup x = some c → c ≠ b) ∧ ∀ p ∈ X.pn ++ pins, p.1 ≠ b
theorem Inv.fpOk {X : Cx} {pins : List (Addr × Obj)} {σ : St} {H H' : Hp} {s : Shared} {b : Addr} (I : Inv X pins σ H s) (hb : s.heap.objs.size ≤ b) (hn : H' b = none) : FpOk X pins H' b := by
  refine ⟨hn, Nat.ne_of_gt (Nat.lt_of_lt_of_le I.lt hb), I.nofs hb, .inr (Nat.le_trans I.sz hb), fun x c e z => ?_, fun p hp z => ?_⟩
  · obtain ⟨v, q⟩ := I.cell x c e
    exact absurd (Nat.lt_of_lt_of_le q.lt (by rw [z]; exact hb)) (Nat.lt_irrefl _)
  · exact absurd (Nat.lt_of_lt_of_le (Heap.lt_size (I.pin p hp).1) (by rw [z]; exact hb)) (Nat.lt_irrefl _)
structure Turn (P : Program) (w : World) (K : PySem.W.Frag) (tg : Expr) (J : It) (fp : List Addr) (it : Addr) (tn : Nat → Heap → Prop) : Prop where
  mem : it ∈ fp
  obj : ∀ i h, tn i h → ∀ b ∈ fp, ∃ o, h.get? b = some o ∧ ∀ v, o.data ≠ .cell v
  keep : ∀ i h h', tn i h → (∀ b ∈ fp, ∀ o, h.get? b = some o → h'.get? b = some o) → tn i h'
  item : ∀ (X : Cx), X.prog = P → X.w = w → X.K = K → X.calm = true → ∀ (i : Nat) (pins : List (Addr × Obj)) (s : Shared) (σ : St) (H : Hp) (E : Value → Shared → Prop), Inv X pins σ H s → (∀ b ∈ fp, FpOk X pins H b) → tn i s.heap → J.go i H →
    wpAny (model P w) X.A (pyNext (.ref it)) (fun r s1 => ∃ u, r = some u ∧
      wpAny (model P w) X.A (letOwnedTupleGo tg (.ref it) u) (fun _ s2 => ∃ x H', Inv X pins σ H' s2 ∧ RelV x u ∧ J.yld i H x H' ∧ tn (i + 1) s2.heap ∧ ∀ b ∈ fp, H' b = none) E s1) E s
  done : ∀ (X : Cx), X.prog = P → X.w = w → X.K = K → X.calm = true → ∀ (i : Nat) (pins : List (Addr × Obj)) (s : Shared) (σ : St) (H : Hp) (E : Value → Shared → Prop), Inv X pins σ H s → (∀ b ∈ fp, FpOk X pins H b) → tn i s.heap → J.stop i H →
    wpAny (model P w) X.A (pyNext (.ref it)) (fun r s1 => r = none ∧ Inv X pins σ H s1) E s
  self : ∀ (A : Around) (i : Nat) (s : Shared) (Q : Value → Shared → Prop) (E : Value → Shared → Prop), tn i s.heap → Q (.ref it) s → wpAny (model P w) A (pyIter (.ref it)) Q E s
abbrev TI := St → Hp → (It → Hp → Prop) → Prop
/-- an iterator has come -/
def PIE (X : Cx) (pins : List (Addr × Obj)) (σ : St) (tg : Expr) (R : It → Hp → Prop) (itv : Value) (s2 : Shared) : Prop :=
  ∃ (it : Addr) (fp : List Addr) (tn : Nat → Heap → Prop) (J : It) (H' : Hp), itv = .ref it ∧ Inv X pins σ H' s2 ∧ Turn X.prog X.w X.K tg J fp it tn ∧ tn 0 s2.heap ∧ (∀ b ∈ fp, FpOk X pins H' b) ∧ R J H'
def PI (X : Cx) (tg iter : Expr) (wi : TI) : Prop :=
  ∀ (pins : List (Addr × Obj)) (s : Shared) (σ : St) (H : Hp) (R : It → Hp → Prop), Inv X pins σ H s → wi σ H R →
    wpAny (model X.prog X.w) X.A (eval iter X.env) (fun v s1 => wpAny (model X.prog X.w) X.A (pyIter v) (PIE X pins σ tg R) X.xe s1) X.xe s

/-- the step ahead of the store is nothing for an iterator that keeps no tuple -/
theorem go_of {M : Model} {A : Around} {E : Value → Shared → Prop} {s : Shared} {tg : Expr} {it : Addr} {u : Value} {o : Obj} {n : String} {vs : Array Value} {Q : Unit → Shared → Prop} (ho : s.heap.get? it = some o) (hc : o.cls = .type n) (hd : o.data = .fields vs)
    (hn : ["enumerate", "zip", "dict_itemiterator", "dict_reverseitemiterator", "odict_iterator", "itertools.zip_longest", "itertools.pairwise"].contains n = false) (hQ : Q () s) : wpAny M A (letOwnedTupleGo tg (.ref it) u) Q E s := by
  unfold letOwnedTupleGo
  cases tg <;> first
    | exact wpAny_pure hQ
    | (cases u <;> first
        | exact wpAny_pure hQ
        | (refine wpAny_bind (wpAny_load ho ?_)
           rw [hc, hd]
           show wpAny M A (if (["enumerate", "zip", "dict_itemiterator", "dict_reverseitemiterator", "odict_iterator", "itertools.zip_longest", "itertools.pairwise"].contains n && vs[0]? == some (rawInt _)) = true then _ else _) Q E s
           rw [if_neg (by intro h; rw [hn, Bool.false_and] at h; cases h)]
           exact wpAny_pure hQ))

/-- the list at a, as it stands at each turn (a loop may append to it) -/
def Itl (K : PySem.W.Frag) (a : Addr) : It :=
  ⟨fun i H => ∃ xs x, SqL K H a xs ∧ xs[i]? = some x, fun i H x H' => H' = H ∧ ∀ xs, SqL K H a xs → xs[i]? = some x, fun i H => ∃ xs, SqL K H a xs ∧ xs.length ≤ i⟩
def Itt (K : PySem.W.Frag) (a : Addr) : It :=
  ⟨fun i H => ∃ xs x, SqT K H a xs ∧ xs[i]? = some x, fun i H x H' => H' = H ∧ ∀ xs, SqT K H a xs → xs[i]? = some x, fun i H => ∃ xs, SqT K H a xs ∧ xs.length ≤ i⟩
/-- lo, lo + 1, .. (n of them) -/
def Itr (lo : Int) (n : Nat) : It := ⟨fun i _ => i < n, fun i H x H' => H' = H ∧ x = .int (lo + i), fun i _ => n ≤ i⟩
theorem turn_list {P : Program} {w : World} {K : PySem.W.Frag} {tg : Expr} (a it : Addr) : Turn P w K tg (Itl K a) [it] it (fun i h => h.IsListIter it a i) where
  mem := by simp
  obj := fun i h st b hb => by
    have e : b = it := by simpa using hb
    subst e
    obtain ⟨o, e, c, d⟩ := st
    exact ⟨o, e, fun v z => by rw [d] at z; cases z⟩
  keep := fun i h h' st k => st.at fun o e => k it (by simp) o e
  item := by
    intro X hP hw hK hc i pins s σ H E I hf st hg
    subst hP hw hK
    obtain ⟨xs, x, hq, hx⟩ := hg
    obtain ⟨its, rv, p, hz⟩ := I.list hq
    obtain ⟨u, hu, ru⟩ := rv.get hx
    obtain ⟨f0, f1, f2, f3, f4, f5⟩ := hf it (by simp)
    refine wpAny_pyNext_list_item st p.isList (x := u) (by simpa using hu) fun h' st' sb => ?_
    have I1 : Inv X pins σ H { s with heap := h' } := I.turned (t' := s.toks) (fun b o hb e => (sb.2 b hb).trans e) f0 f1 f3 f4 f5
    obtain ⟨o, e, c, d⟩ := id st'
    exact ⟨u, rfl, go_of (s := { s with heap := h' }) e c d (by decide) ⟨x, H, I1, ru, ⟨rfl, fun ys hy => by rw [I.list_inj hy hq]; exact hx⟩, st', fun b hb => (hf b hb).1⟩⟩
  done := by
    intro X hP hw hK hc i pins s σ H E I hf st hg
    subst hP hw hK
    obtain ⟨xs, hq, hx⟩ := hg
    obtain ⟨its, rv, p, hz⟩ := I.list hq
    obtain ⟨f0, f1, f2, f3, f4, f5⟩ := hf it (by simp)
    have hl := rv.length
    exact wpAny_pyNext_list_end (I.ok.hd hc) st p.isList (by simp; omega) fun h' eb => ⟨rfl, I.turned (t' := s.toks) (fun b o hb e => eb b o hb e) f0 f1 f3 f4 f5⟩
  self := fun _ _ _ _ _ st h => wpAny_pyIter_listiter st h
theorem turn_range {P : Program} {w : World} {K : PySem.W.Frag} {tg : Expr} (it : Addr) (lo : Int) (n : Nat) : Turn P w K tg (Itr lo n) [it] it (fun i h => IsRangeIter h it (lo + (i : Nat) * 1) ((n : Int) - (i : Nat)) 1) where
  mem := by simp
  obj := fun i h st b hb => by
    have e : b = it := by simpa using hb
    subst e
    exact ⟨_, st, fun v z => by
      have z' : Data.fields _ = Data.cell v := z
      cases z'⟩
  keep := fun i h h' st k => k it (by simp) _ st
  item := by
    intro X hP hw hK hc i pins s σ H E I hf st hg
    subst hP hw hK
    obtain ⟨f0, f1, f2, f3, f4, f5⟩ := hf it (by simp)
    have W := Walks.range (prog := X.prog) (w := X.w) (I.ok.hd hc) it lo 1 n
    refine W.item i s _ _ hg st fun v h' tk hv st' kk => ?_
    obtain ⟨t, rfl⟩ := hv
    have I1 : Inv X pins σ H { s with heap := h', toks := tk } := I.turned (fun b o hb e => kk b o (by simpa using hb) e) f0 f1 f3 f4 f5
    refine ⟨_, rfl, go_of (s := { s with heap := h', toks := tk }) (n := "range_iterator") st' rfl rfl (by decide) ⟨.int (lo + i), H, I1, ⟨t, ?_⟩, ⟨rfl, rfl⟩, st', fun b hb => (hf b hb).1⟩⟩
    rw [Int.mul_one]
  done := by
    intro X hP hw hK hc i pins s σ H E I hf st hg
    subst hP hw hK
    obtain ⟨f0, f1, f2, f3, f4, f5⟩ := hf it (by simp)
    exact wpAny_pyNext_range_end (I.ok.hd hc) st (by have : n ≤ i := hg; omega) fun h' eb => ⟨rfl, I.turned (t' := s.toks) (fun b o hb e => eb b o hb e) f0 f1 f3 f4 f5⟩
  self := fun _ _ _ _ _ st h => wpAny_pyIter_rangeiter st h
end L2

namespace L2
open PySem PySem.Spec PyProof.Rows
section
variable {X : Cx} {tg : Expr}
def iList (K : PySem.W.Frag) (tl : TE) : TI := fun σ H R => tl σ H fun x H1 => ∃ a, x = .ref a ∧ (∃ xs, SqL K H1 a xs) ∧ R (Itl K a) H1
def iTup (K : PySem.W.Frag) (tl : TE) : TI := fun σ H R => tl σ H fun x H1 => ∃ a, x = .ref a ∧ (∃ xs, SqT K H1 a xs) ∧ R (Itt K a) H1
theorem pi_list {l : Expr} {tl : TE} (hl : PE X l tl) : PI X tg l (iList X.K tl) := by
  intro pins s σ H R I h
  refine thn (hl pins s σ H _ I h) fun v s1 ⟨x, H1, I1, r1, q1⟩ => ?_
  obtain ⟨a, e, ⟨xs, hq⟩, q⟩ := q1
  subst e
  cases r1
  obtain ⟨its, rv, p, hz⟩ := I1.list hq
  refine wpAny_pyIter_list p.isList ?_
  refine ⟨s1.heap.objs.size, [s1.heap.objs.size], _, _, H1, rfl, I1.kept (t' := s1.toks) fun b o e => Heap.get?_push_of_some _ e, turn_list a _, ⟨_, Heap.get?_push_size _ rfl, rfl, rfl⟩, fun b hb => ?_, q⟩
  have e : b = s1.heap.objs.size := by simpa using hb
  subst e
  exact I1.fpOk (Nat.le_refl _) (I1.hok.fresh (Nat.le_refl _))
/-- a range object just made, walked -/
theorem range_it {pins : List (Addr × Obj)} {σ : St} {H : Hp} {s : Shared} {R : It → Hp → Prop} {E : Value → Shared → Prop} {lo hi : Int} {t u v : Tok} {tk : Nat} (I : Inv X pins σ H s) (h1 : -(2 ^ 62) ≤ lo) (h2 : lo < 2 ^ 62) (h3 : -(2 ^ 62) ≤ hi) (h4 : hi < 2 ^ 62)
    (q : R (Itr lo (hi - lo).toNat) H) : wpAny (model X.prog X.w) X.A (pyIter (.ref s.heap.objs.size)) (PIE X pins σ tg R) E { s with heap := s.heap.push { cls := .type "range", data := .fields #[.int lo t, .int hi u, .int 1 v] }, toks := tk } := by
  refine wpAny_pyIter_range (IsRange.new ..) (small_one h1 h2 h3 h4) ?_
  have I1 : Inv X pins σ H { s with heap := s.heap.push { cls := .type "range", data := .fields #[.int lo t, .int hi u, .int 1 v] }, toks := tk } := I.kept fun b o e => Heap.get?_push_of_some _ e
  refine ⟨(s.heap.push { cls := .type "range", data := .fields #[.int lo t, .int hi u, .int 1 v] }).objs.size, [(s.heap.push { cls := .type "range", data := .fields #[.int lo t, .int hi u, .int 1 v] }).objs.size], _, _, H, rfl,
    I1.kept (t' := tk) fun b o e => Heap.get?_push_of_some _ e, turn_range _ lo (hi - lo).toNat, ?_, fun b hb => ?_, q⟩
  · have e1 : lo + ((0 : Nat) : Int) * 1 = lo := by simp
    have e2 : (((hi - lo).toNat : Nat) : Int) - ((0 : Nat) : Int) = Builtin.Range.rangeSize lo hi 1 := by rw [rangeSize_one]; split <;> omega
    show IsRangeIter _ _ (lo + ((0 : Nat) : Int) * 1) ((((hi - lo).toNat : Nat) : Int) - ((0 : Nat) : Int)) 1
    rw [e1, e2]
    exact Heap.get?_push_size _ rfl
  · have e : b = (s.heap.push { cls := .type "range", data := .fields #[.int lo t, .int hi u, .int 1 v] }).objs.size := by simpa using hb
    subst e
    exact I1.fpOk (Nat.le_refl _) (I1.hok.fresh (Nat.le_refl _))
def iRng1 (ta : TA) : TI := fun σ H R => ta σ H fun vs H1 => ∃ j : Int, vs = [.int j] ∧ -(2 ^ 62) ≤ j ∧ j < 2 ^ 62 ∧ R (Itr 0 j.toNat) H1
def iRng2 (ta : TA) : TI := fun σ H R => ta σ H fun vs H1 => ∃ i j : Int, vs = [.int i, .int j] ∧ (-(2 ^ 62) ≤ i ∧ i < 2 ^ 62 ∧ -(2 ^ 62) ≤ j ∧ j < 2 ^ 62) ∧ R (Itr i (j - i).toNat) H1
theorem pi_range1 {a : Expr} {ta : TA} {p pos : Pos} (hg : Gl X "range") (hm : X.mg "range" = none) (ha : PA X [a] ta) (hs : starEach [a] X.env = [(false, eval a X.env)] := by rfl) : PI X tg (.Call (.Name "range" p) [a] [] pos) (iRng1 ta) := by
  intro pins s σ H R I h
  refine Call_ (ld_blt I hg hm boot_range (PyProof.Rows.callWith_type1 (thn (ha pos pins s σ H _ I h) fun us s1 ⟨vs, H1, I1, r1, q1⟩ => ?_) hs rfl))
  obtain ⟨j, e, q1, q2, q⟩ := q1
  subst e
  cases r1 with
  | cons r rr =>
    cases rr
    obtain ⟨t, rfl⟩ := r
    exact call_range_1 (range_it I1 (by omega) (by omega) q1 q2 (by simpa using q))

/-! ### for -/
/-- W: the invariant by the turn and a measure; N: what the body is to reach -/
def tFor (wi : TI) (g : TG) (tb : TS) : TS := fun D σ H => wi σ H fun J H1 => ∃ W : Nat → Nat → St → Hp → Prop, (∃ m, W 0 m σ H1) ∧ ∀ i m σ H, W i m σ H →
  (J.stop i H ∧ D.nx σ H) ∨ (J.go i H ∧ ∃ N : St → Hp → Prop, (∀ σ' H', N σ' H' → ∃ m', m' < m ∧ W (i + 1) m' σ' H') ∧ ∀ x H', J.yld i H x H' → g x σ H' fun σ2 H2 => tb { D with nx := N, ct := N, bk := D.nx } σ2 H2)
/-- the records at fp as they stand -/
def pinsAt (fp : List Addr) (h : Heap) : List (Addr × Obj) := fp.filterMap fun b => (h.get? b).map fun o => (b, o)
theorem mem_pinsAt {fp : List Addr} {h : Heap} {b : Addr} {o : Obj} (hb : b ∈ fp) (e : h.get? b = some o) : (b, o) ∈ pinsAt fp h := List.mem_filterMap.mpr ⟨b, hb, by rw [e]; rfl⟩
theorem of_pinsAt {fp : List Addr} {h : Heap} {p : Addr × Obj} (hp : p ∈ pinsAt fp h) : p.1 ∈ fp ∧ h.get? p.1 = some p.2 := by
  obtain ⟨b, hb, e⟩ := List.mem_filterMap.mp hp
  cases q : h.get? b with
  | none => rw [q] at e; cases e
  | some o =>
    rw [q] at e
    have e' : (b, o) = p := Option.some.inj e
    subst e'
    exact ⟨hb, q⟩
theorem Inv.pinned {pins : List (Addr × Obj)} {σ : St} {H : Hp} {s : Shared} {fp : List Addr} (I : Inv X pins σ H s) (hf : ∀ b ∈ fp, FpOk X pins H b) (ho : ∀ b ∈ fp, ∃ o, s.heap.get? b = some o ∧ ∀ v, o.data ≠ .cell v) : Inv X (pins ++ pinsAt fp s.heap) σ H s :=
  I.pins_of fun p hp => (List.mem_append.mp hp).elim (fun z => I.pin p (List.mem_append_right _ z)) fun z => by
    obtain ⟨hb, e⟩ := of_pinsAt z
    obtain ⟨f0, f1, f2, _⟩ := hf p.1 hb
    obtain ⟨o, e', d⟩ := ho p.1 hb
    rw [e] at e'; cases e'
    exact ⟨e, f0, f1, f2, d⟩
theorem Inv.unpinned {pins pl : List (Addr × Obj)} {σ : St} {H : Hp} {s : Shared} (I : Inv X (pins ++ pl) σ H s) : Inv X pins σ H s := I.pins_of fun p hp => I.pin p (List.mem_append_right _ (List.mem_append_left _ hp))
theorem ps_for {iter : Expr} {body : List Stmt} {wi : TI} {g : TG} {tb : TS} {pos : Pos} (hp : PassesOwn (model X.prog X.w) X.A X.env X.xe) (hc : X.calm = true) (hi : PI X tg iter wi) (hg : PG X tg g) (hb : PSs X body tb)
    (hs : ∀ x, foldedSetIterable iter X.env x = pure x := by intro _; rfl) : PS X (.For tg iter body [] pos) (tFor wi g tb) := by
  intro pins s σ H D I h
  refine wpAny_For (thn (hi pins s σ H _ I h) fun v s1 h1 => thn h1 fun itv s2 h2 => ?_) hs
  obtain ⟨it, fp, tn, J, H2, e, I2, T, st2, f2, W, ⟨m0, w0⟩, turn⟩ := h2
  subst e
  -- what stays true of the iterator's objects through the loop
  have stat : ∀ {H' : Hp}, (∀ b ∈ fp, H' b = none) → ∀ b ∈ fp, FpOk X pins H' b := fun hn b hb => ⟨hn b hb, (f2 b hb).2⟩
  refine codeAny_forLoop_any (fun n s' => ∃ i σ' H', Inv X pins σ' H' s' ∧ tn i s'.heap ∧ (∀ b ∈ fp, H' b = none) ∧ W i n σ' H') ?_ m0 ⟨0, σ, H2, I2, st2, fun b hb => (f2 b hb).1, w0⟩
  rintro n s3 ⟨i, σ3, H3, I3, st3, fr3, w3⟩
  rcases turn i n σ3 H3 w3 with ⟨stop, qn⟩ | ⟨go, N, hN, step⟩
  · refine wpAny_passesOwn hp (thn (T.done X rfl rfl rfl hc i pins s3 σ3 H3 X.xe I3 (stat fr3) st3 stop) fun r s4 ⟨hr, I4⟩ => ?_)
    subst hr
    exact wpAny_execs_nil ⟨σ3, H3, I4, qn⟩
  · refine wpAny_passesOwn hp (thn (T.item X rfl rfl rfl hc i pins s3 σ3 H3 X.xe I3 (stat fr3) st3 go) fun r s4 ⟨u, hr, h4⟩ => ?_)
    subst hr
    refine wpAny_passesOwn hp (thn h4 fun _ s5 ⟨x, H5, I5, r5, y5, st5, fr5⟩ => ?_)
    have I5' := I5.pinned (stat fr5) (T.obj _ _ st5)
    refine wpAny_passesOwn hp (thn (hg _ s5 σ3 H5 x u _ I5' r5 (step x H5 y5)) fun _ s6 ⟨σ6, H6, I6, q6⟩ => ?_)
    refine wpAny_passesOwn hp (thn (hb _ s6 σ6 H6 _ I6 q6) fun f s7 q7 => ?_)
    have again : ∀ {σ7 : St} {H7 : Hp}, Inv X (pins ++ pinsAt fp s5.heap) σ7 H7 s7 → N σ7 H7 → ∃ m, m < n ∧ ∃ i σ' H', Inv X pins σ' H' s7 ∧ tn i s7.heap ∧ (∀ b ∈ fp, H' b = none) ∧ W i m σ' H' := fun {σ7 H7} I7 n7 => by
      obtain ⟨m', hm, w7⟩ := hN σ7 H7 n7
      refine ⟨m', hm, i + 1, σ7, H7, I7.unpinned, T.keep _ _ _ st5 fun b hb o e => (I7.pin (b, o) (List.mem_append_right _ (List.mem_append_right _ (mem_pinsAt hb e)))).1, fun b hb => ?_, w7⟩
      obtain ⟨o, e, d⟩ := T.obj _ _ st5 b hb
      exact (I7.pin (b, o) (List.mem_append_right _ (List.mem_append_right _ (mem_pinsAt hb e)))).2.1
    cases f with
    | next => obtain ⟨σ7, H7, I7, n7⟩ := q7; exact again I7 n7
    | cont => obtain ⟨σ7, H7, I7, n7⟩ := q7; exact again I7 n7
    | brk => obtain ⟨σ7, H7, I7, q7⟩ := q7; exact ⟨σ7, H7, I7.unpinned, q7⟩
    | ret v => obtain ⟨x7, σ7, H7, I7, r7, q7⟩ := q7; exact ⟨x7, σ7, H7, I7.unpinned, r7, q7⟩
end

/-! ### the forms one uses -/
/-- over a list that the body leaves as it is -/
theorem for_list {K : PySem.W.Frag} {a : Addr} {xs : List V} {g : TG} {tb : TS} {D : Ends} {σ : St} {H : Hp} (Pv : Nat → St → Hp → Prop) (h0 : Pv 0 σ H) (hl : ∀ i σ H, i ≤ xs.length → Pv i σ H → SqL K H a xs)
    (hs : ∀ i x σ H, xs[i]? = some x → Pv i σ H → g x σ H fun σ2 H2 => tb { D with nx := Pv (i + 1), ct := Pv (i + 1), bk := D.nx } σ2 H2) (hd : ∀ σ H, Pv xs.length σ H → D.nx σ H) :
    ∃ W : Nat → Nat → St → Hp → Prop, (∃ m, W 0 m σ H) ∧ ∀ i m σ H, W i m σ H →
      ((Itl K a).stop i H ∧ D.nx σ H) ∨ ((Itl K a).go i H ∧ ∃ N : St → Hp → Prop, (∀ σ' H', N σ' H' → ∃ m', m' < m ∧ W (i + 1) m' σ' H') ∧ ∀ x H', (Itl K a).yld i H x H' → g x σ H' fun σ2 H2 => tb { D with nx := N, ct := N, bk := D.nx } σ2 H2) := by
  refine ⟨fun i m σ H => m = xs.length - i ∧ i ≤ xs.length ∧ Pv i σ H, ⟨xs.length, by simp, Nat.zero_le _, h0⟩, ?_⟩
  rintro i m σ H ⟨rfl, hi, p⟩
  have q := hl i σ H hi p
  by_cases hlt : i < xs.length
  · refine .inr ⟨⟨xs, xs[i], q, by simp [hlt]⟩, Pv (i + 1), fun σ' H' p' => ⟨xs.length - (i + 1), by omega, rfl, hlt, p'⟩, fun x H' y => ?_⟩
    obtain ⟨e, y⟩ := y
    subst e
    exact hs i x σ _ (y xs q) p
  · have e : i = xs.length := by omega
    subst e
    exact .inl ⟨⟨xs, q, Nat.le_refl _⟩, hd σ H p⟩
theorem for_range {lo : Int} {n : Nat} {g : TG} {tb : TS} {D : Ends} {σ : St} {H : Hp} (Pv : Nat → St → Hp → Prop) (h0 : Pv 0 σ H)
    (hs : ∀ i σ H, i < n → Pv i σ H → g (.int (lo + i)) σ H fun σ2 H2 => tb { D with nx := Pv (i + 1), ct := Pv (i + 1), bk := D.nx } σ2 H2) (hd : ∀ σ H, Pv n σ H → D.nx σ H) :
    ∃ W : Nat → Nat → St → Hp → Prop, (∃ m, W 0 m σ H) ∧ ∀ i m σ H, W i m σ H →
      ((Itr lo n).stop i H ∧ D.nx σ H) ∨ ((Itr lo n).go i H ∧ ∃ N : St → Hp → Prop, (∀ σ' H', N σ' H' → ∃ m', m' < m ∧ W (i + 1) m' σ' H') ∧ ∀ x H', (Itr lo n).yld i H x H' → g x σ H' fun σ2 H2 => tb { D with nx := N, ct := N, bk := D.nx } σ2 H2) := by
  refine ⟨fun i m σ H => m = n - i ∧ i ≤ n ∧ Pv i σ H, ⟨n, by simp, Nat.zero_le _, h0⟩, ?_⟩
  rintro i m σ H ⟨rfl, hi, p⟩
  by_cases hlt : i < n
  · refine .inr ⟨hlt, Pv (i + 1), fun σ' H' p' => ⟨n - (i + 1), by omega, rfl, hlt, p'⟩, fun x H' y => ?_⟩
    obtain ⟨e, y⟩ := y
    subst e y
    exact hs i σ _ hlt p
  · have e : i = n := by omega
    subst e
    exact .inl ⟨Nat.le_refl _, hd σ H p⟩
end L2

namespace L2
open PySem PySem.Spec PyProof.Rows

abbrev R2 := V → V → Hp → VK → Prop
/-- a two-place operation on values: f is binaryOp op, inplaceOp op or compareOp op -/
def OpR (X : Cx) (f : Value → Value → Sem Value) (r : R2) : Prop :=
  ∀ (pins : List (Addr × Obj)) (s : Shared) (σ : St) (H : Hp) (x y : V) (v u : Value) (Q : VK), Inv X pins σ H s → RelV x v → RelV y u → r x y H Q →
    wpAny (model X.prog X.w) X.A (f v u) (EP X pins σ Q) X.xe s
/-- a one-place operation -/
def UnR (X : Cx) (f : Value → Sem Value) (r : V → Hp → VK → Prop) : Prop :=
  ∀ (pins : List (Addr × Obj)) (s : Shared) (σ : St) (H : Hp) (x : V) (v : Value) (Q : VK), Inv X pins σ H s → RelV x v → r x H Q →
    wpAny (model X.prog X.w) X.A (f v) (EP X pins σ Q) X.xe s
/-- a call of a value that is known (a builtin, a type) with values -/
def CallR (X : Cx) (f : Value) (r : List V → Hp → VK → Prop) : Prop :=
  ∀ (pins : List (Addr × Obj)) (s : Shared) (σ : St) (H : Hp) (xs : List V) (us : List Value) (Q : VK), Inv X pins σ H s → Vals xs us → r xs H Q →
    wpAny (model X.prog X.w) X.A (call f us) (EP X pins σ Q) X.xe s
/-- a value's truth -/
def TruR (X : Cx) (r : V → Hp → (Bool → Hp → Prop) → Prop) : Prop :=
  ∀ (pins : List (Addr × Obj)) (s : Shared) (σ : St) (H : Hp) (x : V) (v : Value) (Q : Bool → Hp → Prop), Inv X pins σ H s → RelV x v → r x H Q →
    wpAny (model X.prog X.w) X.A (truthy v) (TP X pins σ Q) X.xe s

def tOp (r : R2) (ta tb : TE) : TE := fun σ H Q => ta σ H fun x H1 => tb σ H1 fun y H2 => r x y H2 Q
def tUn (r : V → Hp → VK → Prop) (ta : TE) : TE := fun σ H Q => ta σ H fun x H1 => r x H1 Q
/-- ints in, under C, and a value out -/
def rI (C : Int → Int → Prop) (g : Int → Int → V) : R2 := fun x y H Q => ∃ i j, x = .int i ∧ y = .int j ∧ C i j ∧ Q (g i j) H
def rI0 (g : Int → Int → V) : R2 := fun x y H Q => ∃ i j, x = .int i ∧ y = .int j ∧ Q (g i j) H
def rU (g : Int → V) : V → Hp → VK → Prop := fun x H Q => ∃ i, x = .int i ∧ Q (g i) H

section
variable {X : Cx} {a b c : Expr} {ta tb tc : TE} {pos : Pos}

theorem binT (ha : PE X a ta) (hb : PE X b tb) {pins : List (Addr × Obj)} {s : Shared} {σ : St} {H : Hp} {R : V → V → Hp → Prop} (I : Inv X pins σ H s)
    (h : ta σ H fun x H1 => tb σ H1 fun y H2 => R x y H2) {Q : Value → Shared → Prop} {f : Value → Value → Sem Value}
    (hf : ∀ v u s2 x y H2, Inv X pins σ H2 s2 → RelV x v → RelV y u → R x y H2 → wpAny (model X.prog X.w) X.A (f v u) Q X.xe s2) :
    wpAny (model X.prog X.w) X.A (eval a X.env) (fun v s₁ => wpAny (model X.prog X.w) X.A (eval b X.env) (fun u s₂ => wpAny (model X.prog X.w) X.A (f v u) Q X.xe s₂) X.xe s₁) X.xe s := by
  refine thn (ha pins s σ H _ I h) fun v s1 ⟨x, H1, I1, r1, q1⟩ => ?_
  refine thn (hb pins s1 σ H1 _ I1 q1) fun u s2 ⟨y, H2, I2, r2, q2⟩ => ?_
  exact hf v u s2 x y H2 I2 r1 r2 q2

theorem pe_op {op : Operator} {r : R2} (ho : OpR X (binaryOp op) r) (ha : PE X a ta) (hb : PE X b tb) : PE X (.BinOp a op b pos) (tOp r ta tb) := by
  intro pins s σ H Q I h
  exact wpAny_BinOp (binT ha hb I h fun v u s2 x y H2 I2 rx ry q => ho pins s2 σ H2 x y v u Q I2 rx ry q)
theorem pe_un {op : UnaryOp} {r : V → Hp → VK → Prop} (ho : UnR X (unaryOp op) r) (ha : PE X a ta) : PE X (.UnaryOp op a pos) (tUn r ta) := by
  intro pins s σ H Q I h
  exact UnaryOp_ (thn (ha pins s σ H _ I h) fun v s1 ⟨x, H1, I1, r1, q1⟩ => ho pins s1 σ H1 x v Q I1 r1 q1)

/-! ### ints -/
theorem opI {f : Value → Value → Sem Value} {C : Int → Int → Prop} {g : Int → Int → Int}
    (rule : ∀ (i j : Int) (t u : Tok) (s : Shared) (Q : Value → Shared → Prop) (E : Value → Shared → Prop), C i j → Q (.int (g i j) s.toks) { s with toks := s.toks + 1 } → wpAny (model X.prog X.w) X.A (f (.int i t) (.int j u)) Q E s) :
    OpR X f (rI C fun i j => .int (g i j)) := by
  intro pins s σ H x y v u Q I rx ry h
  obtain ⟨i, j, rfl, rfl, hc, q⟩ := h
  obtain ⟨t, rfl⟩ := rx
  obtain ⟨t', rfl⟩ := ry
  exact rule i j t t' s _ _ hc ⟨.int (g i j), H, I.tok _, ⟨_, rfl⟩, q⟩
theorem opI0 {f : Value → Value → Sem Value} {g : Int → Int → Int}
    (rule : ∀ (i j : Int) (t u : Tok) (s : Shared) (Q : Value → Shared → Prop) (E : Value → Shared → Prop), Q (.int (g i j) s.toks) { s with toks := s.toks + 1 } → wpAny (model X.prog X.w) X.A (f (.int i t) (.int j u)) Q E s) :
    OpR X f (rI0 fun i j => .int (g i j)) := by
  intro pins s σ H x y v u Q I rx ry h
  obtain ⟨i, j, rfl, rfl, q⟩ := h
  obtain ⟨t, rfl⟩ := rx
  obtain ⟨t', rfl⟩ := ry
  exact rule i j t t' s _ _ ⟨.int (g i j), H, I.tok _, ⟨_, rfl⟩, q⟩
theorem opB0 {f : Value → Value → Sem Value} {g : Int → Int → Bool}
    (rule : ∀ (i j : Int) (t u : Tok) (s : Shared) (Q : Value → Shared → Prop) (E : Value → Shared → Prop), Q (.bool (g i j)) s → wpAny (model X.prog X.w) X.A (f (.int i t) (.int j u)) Q E s) :
    OpR X f (rI0 fun i j => .bl (g i j)) := by
  intro pins s σ H x y v u Q I rx ry h
  obtain ⟨i, j, rfl, rfl, q⟩ := h
  obtain ⟨t, rfl⟩ := rx
  obtain ⟨t', rfl⟩ := ry
  exact rule i j t t' s _ _ ⟨.bl (g i j), H, I, rfl, q⟩

def CDiv (i j : Int) : Prop := 0 < j ∧ j < 1073741824
def CDivN (i j : Int) : Prop := j ≠ 0 ∧ j.natAbs < 1073741824
def CPow (i j : Int) : Prop := 0 ≤ j ∧ j ≤ 1000000 ∧ i.natAbs < 2 ^ 64
def CMul (i j : Int) : Prop := (-(2 ^ 64) < i ∧ i < 2 ^ 64) ∨ (-(2 ^ 64) < j ∧ j < 2 ^ 64)
theorem CMul.ok {i j : Int} (h : CMul i j) : IntMulOk i j := by
  rcases h with ⟨h1, h2⟩ | ⟨h1, h2⟩
  · exact .of_left (intBits_le_64 h1 h2)
  · exact .of_right (intBits_le_64 h1 h2)

theorem op_add : OpR X (binaryOp .Add) (rI0 fun i j => .int (i + j)) := opI0 fun _ _ _ _ _ _ _ q => add_int q
theorem op_sub : OpR X (binaryOp .Sub) (rI0 fun i j => .int (i - j)) := opI0 fun _ _ _ _ _ _ _ q => sub_int q
theorem op_mul : OpR X (binaryOp .Mult) (rI CMul fun i j => .int (i * j)) := opI fun _ _ _ _ _ _ _ hc q => mul_int q hc.ok
/-- // by a positive divisor -/
theorem op_fdiv : OpR X (binaryOp .FloorDiv) (rI CDiv fun i j => .int (i / j)) := opI fun i j _ _ _ _ _ hc q => by
  have h1 : (0 : Int) < j := hc.1
  have h2 : j < 1073741824 := hc.2
  exact floordiv_int (by omega) (by rw [Int.fdiv_eq_ediv_of_nonneg i (by omega)]; exact q) (.inl (PyProof.noPylong_small (by omega)))
/-- % by a positive divisor of any size -/
theorem op_mod : OpR X (binaryOp .Mod) (rI (fun _ j => 0 < j) fun i j => .int (i % j)) := opI fun i j _ _ _ _ _ hc q => by
  have h1 : (0 : Int) < j := hc
  exact mod_int' (by omega) (by rw [Int.fmod_eq_emod_of_nonneg i (by omega)]; exact q)


theorem unI {f : Value → Sem Value} {g : Int → Int}
    (rule : ∀ (i : Int) (t : Tok) (s : Shared) (Q : Value → Shared → Prop) (E : Value → Shared → Prop), Q (.int (g i) s.toks) { s with toks := s.toks + 1 } → wpAny (model X.prog X.w) X.A (f (.int i t)) Q E s) :
    UnR X f (rU fun i => .int (g i)) := by
  intro pins s σ H x v Q I rx h
  obtain ⟨i, rfl, q⟩ := h
  obtain ⟨t, rfl⟩ := rx
  exact rule i t s _ _ ⟨.int (g i), H, I.tok _, ⟨_, rfl⟩, q⟩
theorem un_neg : UnR X (unaryOp .USub) (rU fun i => .int (-i)) := unI fun _ _ _ _ _ q => neg_int q

/-! ### bools among ints: n += (a < b) -/
end

/-! ### comparisons -/
/-- the scalars that == tells apart as data does -/
def scal : V → V → Bool
  | .non, .non => true | .non, .int _ => true | .int _, .non => true | .non, .bl _ => true | .bl _, .non => true | .non, .str _ => true | .str _, .non => true
  | .int _, .int _ => true | .bl _, .bl _ => true | .str _, .str _ => true | .byt _, .byt _ => true
  | .int _, .str _ => true | .str _, .int _ => true | .bl _, .str _ => true | .str _, .bl _ => true
  | _, _ => false
def rEq : R2 := fun x y H Q => scal x y = true ∧ Q (.bl (decide (x = y))) H
def rNe : R2 := fun x y H Q => scal x y = true ∧ Q (.bl (!decide (x = y))) H

theorem dec_int {i j : Int} : decide (V.int i = V.int j) = (i == j) := by
  rw [Bool.eq_iff_iff]
  simp
theorem dec_bl {i j : Bool} : decide (V.bl i = V.bl j) = (i == j) := by
  rw [Bool.eq_iff_iff]
  simp
theorem dec_str {i j : Str} : decide (V.str i = V.str j) = (i == j) := by
  rw [Bool.eq_iff_iff]
  simp
theorem dec_byt {i j : Array UInt8} : decide (V.byt i = V.byt j) = (i.toList == j.toList) := by
  rw [Bool.eq_iff_iff]
  cases i
  cases j
  simp

section
variable {X : Cx} {a b c : Expr} {ta tb tc : TE} {pos : Pos}
theorem fin_bl {pins : List (Addr × Obj)} {σ : St} {H : Hp} {s : Shared} {Q : VK} {k k' : Bool} (I : Inv X pins σ H s) (q : Q (.bl k) H) (e : k = k') : EP X pins σ Q (.bool k') s := by
  subst e
  exact ⟨.bl k, H, I, rfl, q⟩
theorem op_eq : OpR X (compareOp .Eq) rEq := by
  intro pins s σ H x y v u Q I rx ry h
  obtain ⟨hs, q⟩ := h
  cases x with
  | non =>
    cases rx
    cases y with
    | non => cases ry; exact PySem.EqNone.eq_none_none (fin_bl I q (by simp))
    | bl j => cases ry; exact PySem.EqNone.eq_none_bool (fin_bl I q (by simp))
    | int j => obtain ⟨t', rfl⟩ := ry; exact PySem.EqNone.eq_none_int (fin_bl I q (by simp))
    | str j => obtain ⟨t', rfl⟩ := ry; exact PySem.EqNone.eq_none_str (fin_bl I q (by simp))
    | _ => exact absurd (show false = true from hs) Bool.false_ne_true
  | bl i =>
    cases rx
    cases y with
    | non => cases ry; exact PySem.EqNone.eq_bool_none (fin_bl I q (by simp))
    | bl j => cases ry; exact eq_bool (fin_bl I q dec_bl)
    | str j => obtain ⟨t', rfl⟩ := ry; exact PySem.EqMixed.eq_bool_str (fin_bl I q (by simp))
    | _ => exact absurd (show false = true from hs) Bool.false_ne_true
  | int i =>
    obtain ⟨t, rfl⟩ := rx
    cases y with
    | non => cases ry; exact PySem.EqNone.eq_int_none (fin_bl I q (by simp))
    | int j => obtain ⟨t', rfl⟩ := ry; exact eq_int (fin_bl I q dec_int)
    | str j => obtain ⟨t', rfl⟩ := ry; exact PySem.EqMixed.eq_int_str (fin_bl I q (by simp))
    | _ => exact absurd (show false = true from hs) Bool.false_ne_true
  | str i =>
    obtain ⟨t, rfl⟩ := rx
    cases y with
    | non => cases ry; exact PySem.EqNone.eq_str_none (fin_bl I q (by simp))
    | bl j => cases ry; exact PySem.EqMixed.eq_str_bool (fin_bl I q (by simp))
    | int j => obtain ⟨t', rfl⟩ := ry; exact PySem.EqMixed.eq_str_int (fin_bl I q (by simp))
    | str j => obtain ⟨t', rfl⟩ := ry; exact eq_str (fin_bl I q dec_str)
    | _ => exact absurd (show false = true from hs) Bool.false_ne_true
  | byt i =>
    obtain ⟨t, rfl⟩ := rx
    cases y with
    | byt j => obtain ⟨t', rfl⟩ := ry; exact PySem.W.eq_bytes (fin_bl I q dec_byt)
    | _ => exact absurd (show false = true from hs) Bool.false_ne_true
  | _ => cases y <;> exact absurd (show false = true from hs) Bool.false_ne_true
theorem op_ne : OpR X (compareOp .NotEq) rNe := by
  intro pins s σ H x y v u Q I rx ry h
  obtain ⟨hs, q⟩ := h
  cases x with
  | non =>
    cases rx
    cases y with
    | non => cases ry; exact PySem.EqNone.ne_none_none (fin_bl I q (by simp))
    | bl j => cases ry; exact PySem.EqNone.ne_none_bool (fin_bl I q (by simp))
    | int j => obtain ⟨t', rfl⟩ := ry; exact PySem.EqNone.ne_none_int (fin_bl I q (by simp))
    | str j => obtain ⟨t', rfl⟩ := ry; exact PySem.EqNone.ne_none_str (fin_bl I q (by simp))
    | _ => exact absurd (show false = true from hs) Bool.false_ne_true
  | bl i =>
    cases rx
    cases y with
    | non => cases ry; exact PySem.EqNone.ne_bool_none (fin_bl I q (by simp))
    | bl j => cases ry; exact ne_bool (fin_bl I q (congrArg not dec_bl))
    | str j => obtain ⟨t', rfl⟩ := ry; exact PySem.EqMixed.ne_bool_str (fin_bl I q (by simp))
    | _ => exact absurd (show false = true from hs) Bool.false_ne_true
  | int i =>
    obtain ⟨t, rfl⟩ := rx
    cases y with
    | non => cases ry; exact PySem.EqNone.ne_int_none (fin_bl I q (by simp))
    | int j => obtain ⟨t', rfl⟩ := ry; exact ne_int (fin_bl I q (congrArg not dec_int))
    | str j => obtain ⟨t', rfl⟩ := ry; exact PySem.EqMixed.ne_int_str (fin_bl I q (by simp))
    | _ => exact absurd (show false = true from hs) Bool.false_ne_true
  | str i =>
    obtain ⟨t, rfl⟩ := rx
    cases y with
    | non => cases ry; exact PySem.EqNone.ne_str_none (fin_bl I q (by simp))
    | bl j => cases ry; exact PySem.EqMixed.ne_str_bool (fin_bl I q (by simp))
    | int j => obtain ⟨t', rfl⟩ := ry; exact PySem.EqMixed.ne_str_int (fin_bl I q (by simp))
    | str j => obtain ⟨t', rfl⟩ := ry; exact ne_str (fin_bl I q (congrArg not dec_str))
    | _ => exact absurd (show false = true from hs) Bool.false_ne_true
  | byt i =>
    obtain ⟨t, rfl⟩ := rx
    cases y with
    | byt j => obtain ⟨t', rfl⟩ := ry; exact PySem.W.ne_bytes (fin_bl I q (congrArg not dec_byt))
    | _ => exact absurd (show false = true from hs) Bool.false_ne_true
  | _ => cases y <;> exact absurd (show false = true from hs) Bool.false_ne_true

theorem op_lt : OpR X (compareOp .Lt) (rI0 fun i j => .bl (decide (i < j))) := opB0 fun _ _ _ _ _ _ _ q => lt_int q
theorem op_gt : OpR X (compareOp .Gt) (rI0 fun i j => .bl (decide (j < i))) := opB0 fun _ _ _ _ _ _ _ q => gt_int q

/-- is None, is not None: the right side a value none -/
theorem op_isN : OpR X (compareOp .Is) (fun x y H Q => y = .non ∧ Q (.bl (decide (x = .non))) H) := by
  intro pins s σ H x y v u Q I rx ry h
  obtain ⟨rfl, q⟩ := h
  cases ry
  refine is_none_gen (fin_bl I q ?_)
  cases x <;> first
    | (cases rx; rfl)
    | (obtain ⟨t, rfl⟩ := rx; rfl)

/-- is, is not of two objects that are tracked lists or instances -/
def isObj : HO → Bool
  | .lst _ => true
  | .ins _ _ _ => true
  | _ => false

/-- two rules for one operation: by cases -/
theorem OpR.or {f : Value → Value → Sem Value} {r r' : R2} (h : OpR X f r) (h' : OpR X f r') : OpR X f (fun x y H Q => r x y H Q ∨ r' x y H Q) := by
  intro pins s σ H x y v u Q I rx ry q
  rcases q with q | q
  · exact h pins s σ H x y v u Q I rx ry q
  · exact h' pins s σ H x y v u Q I rx ry q

theorem nomark (b : Expr) {op : CmpOp} (h : op ≠ .In := by decide) (h2 : op ≠ .NotIn := by decide) : behindInMarks op b = false := by
  have e1 : (op == CmpOp.In) = false := by cases op <;> first | rfl | exact absurd rfl h
  have e2 : (op == CmpOp.NotIn) = false := by cases op <;> first | rfl | exact absurd rfl h2
  cases b <;> simp [behindInMarks, e1, e2]
/-- a comparison as a value; hm: nomark b, or (for in, not in) by with_unfolding_all rfl -/
theorem pe_cmpR {op : CmpOp} {r : R2} (ho : OpR X (compareOp op) r) (ha : PE X a ta) (hb : PE X b tb) (hm : behindInMarks op b = false) : PE X (.Compare a [op] [b] pos) (tOp r ta tb) := by
  intro pins s σ H Q I h
  exact wpAny_Compare1 (binT ha hb I h fun v u s2 x y H2 I2 rx ry q => ho pins s2 σ H2 x y v u Q I2 rx ry q) hm
/-- a reading of a value as a test -/
def tTest (t : TE) : TT := fun σ H Q => t σ H fun x H' => ∃ k, x = .bl k ∧ Q k H'
theorem pt_cmpR {op : CmpOp} {r : R2} (ho : OpR X (compareOp op) r) (ha : PE X a ta) (hb : PE X b tb) (hm : behindInMarks op b = false) : PT X (.Compare a [op] [b] pos) (tTest (tOp r ta tb)) := by
  intro pins s σ H Q I h
  refine wpAny_isTrue_Compare1 (thn (ha pins s σ H _ I h) fun v s1 ⟨x, H1, I1, r1, q1⟩ => thn (hb pins s1 σ H1 _ I1 q1) fun u s2 ⟨y, H2, I2, r2, q2⟩ =>
    thn (ho pins s2 σ H2 x y v u _ I2 r1 r2 q2) fun c s3 ⟨z, H3, I3, r3, k, e, q3⟩ => ?_) hm
  subst e
  cases r3
  exact wpAny_truthy_bool ⟨H3, I3, q3⟩
/-- a op1 b op2 c -/
def tChain (r r' : R2) (ta tb tc : TE) : TE := fun σ H Q => ta σ H fun x H1 => tb σ H1 fun y H2 => r x y H2 fun z H3 => ∃ k, z = .bl k ∧
  (if k = true then tc σ H3 fun w' H4 => r' y w' H4 Q else Q (.bl false) H3)

/-! ### truth -/
/-- a value's truth by the abstract heap -/
def TruV (K : PySem.W.Frag) (x : V) (H : Hp) (k : Bool) : Prop :=
  match x with
  | .non => k = false
  | .bl b => k = b
  | .int i => k = (i != 0)
  | .str y => y.length ≤ sizeLine ∧ k = ((y.length : Int) != 0)
  | .byt y => y.size ≤ sizeLine ∧ k = ((y.size : Int) != 0)
  | .ref p => (∃ xs, SqL K H p xs ∧ k = !xs.isEmpty) ∨ (∃ xs, SqT K H p xs ∧ k = !xs.isEmpty) ∨ ∃ kvs, H p = some (.dK kvs) ∧ k = !kvs.isEmpty
  | _ => False
theorem isEmpty_kv {κ : Type} {kvs : List (κ × V)} {vs : List (κ × Value)} (r : KV kvs vs) : (!vs.isEmpty) = !kvs.isEmpty := by
  cases r <;> rfl
theorem isEmpty_of {xs : List V} {its : List Value} (r : Vals xs its) : (!its.toArray.isEmpty) = !xs.isEmpty := by
  cases r <;> simp
theorem line63 : (sizeLine : Nat) < 2 ^ 63 := by rw [sizeLine_eq]; decide
theorem tru_ok : TruR X (fun x H Q => ∃ k, TruV X.K x H k ∧ Q k H) := by
  intro pins s σ H x v Q I rx h
  obtain ⟨k, e, q⟩ := h
  have hl := line63
  have hs : sizeLine = 16777216 := sizeLine_eq
  cases x with
  | non =>
    cases rx
    have e' : k = false := e
    subst e'
    exact truthy_none ⟨H, I, q⟩
  | bl b =>
    cases rx
    have e' : k = b := e
    subst e'
    exact wpAny_truthy_bool ⟨H, I, q⟩
  | int i =>
    obtain ⟨t, rfl⟩ := rx
    have e' : k = (i != 0) := e
    subst e'
    exact PySem.P.truthy_int ⟨H, I, q⟩
  | str y =>
    obtain ⟨t, rfl⟩ := rx
    obtain ⟨hy, e'⟩ : y.length ≤ sizeLine ∧ k = ((y.length : Int) != 0) := e
    subst e'
    exact PySem.P.truthy_str (by omega) ⟨H, I.tok _, q⟩
  | byt y =>
    obtain ⟨t, rfl⟩ := rx
    obtain ⟨hy, e'⟩ : y.size ≤ sizeLine ∧ k = ((y.size : Int) != 0) := e
    subst e'
    exact PySem.W.truthy_bytes (by omega) ⟨H, I.tok _, q⟩
  | ref p =>
    cases rx
    have e' : (∃ xs, SqL X.K H p xs ∧ k = !xs.isEmpty) ∨ (∃ xs, SqT X.K H p xs ∧ k = !xs.isEmpty) ∨ ∃ kvs, H p = some (.dK kvs) ∧ k = !kvs.isEmpty := e
    rcases e' with ⟨xs, hx, e'⟩ | ⟨xs, hx, e'⟩ | ⟨kvs, hx, e'⟩
    · subst e'
      obtain ⟨its, r, pl, hz⟩ := I.list hx
      have hlen := r.length
      exact wpAny_truthy_list pl.isList (by simp only [List.size_toArray]; omega) ⟨H, I.tok _, by rw [isEmpty_of r]; exact q⟩
    · subst e'
      obtain ⟨its, r, pl, hz⟩ := I.tuple hx
      have hlen := r.length
      exact truthy_tuple pl (by simp only [List.size_toArray]; omega) ⟨H, I.tok _, by rw [isEmpty_of r]; exact q⟩
    · subst e'
      obtain ⟨hz, hS, vs, r, m⟩ : kvs.length ≤ sizeLine ∧ (p == sysModules) = false ∧ ∃ vs, KV kvs vs ∧ s.heap.DictOf (mixKind X.prog X.w) p vs := I.hok p _ hx
      have hlen : kvs.length = vs.length := Paired.length r
      exact wpAny_truthy_dict hS m (by omega) ⟨H, I.tok _, by rw [isEmpty_kv r]; exact q⟩
  | _ => exact (show False from e).elim
/-- any expression whose test is its value's truth (a name, a call, a subscript, a field ..: he by fun _ => rfl) -/
theorem pt_truth (ha : PE X a ta) (he : ∀ whole, isTrue a X.env whole = (do let v ← whole; standAt a.pos; holding [v] (truthy v))) :
    PT X a (fun σ H Q => ta σ H fun x H' => ∃ k, TruV X.K x H' k ∧ Q k H') := by
  intro pins s σ H Q I h
  exact isTrue_plain (thn (ha pins s σ H _ I h) fun v s1 ⟨x, H1, I1, r1, q1⟩ => tru_ok pins s1 σ H1 x v Q I1 r1 q1) (he _)

/-! ### strs and bytes -/

def PlainIxT (b : Expr) : Prop := ∀ o i, subscripted b false o i = operate [o, i] (getItem o i)

/-! ### scalar builtins, by CallR -/
theorem vals1 {x : V} {us : List Value} (r : Vals [x] us) : ∃ u, us = [u] ∧ RelV x u := by
  cases r with
  | cons r1 r2 => cases r2; exact ⟨_, rfl, r1⟩
theorem vals2 {x y : V} {us : List Value} (r : Vals [x, y] us) : ∃ u w', us = [u, w'] ∧ RelV x u ∧ RelV y w' := by
  cases r with
  | cons r1 r2 =>
    cases r2 with
    | cons r3 r4 => cases r4; exact ⟨_, _, rfl, r1, r3⟩
theorem call_max2 (hc : X.calm = true) : CallR X (.builtin "max") (fun xs H Q => ∃ i j, xs = [.int i, .int j] ∧ Q (.int (if j > i then j else i)) H) := by
  intro pins s σ H xs us Q I r h
  obtain ⟨i, j, rfl, q⟩ := h
  obtain ⟨u, w', rfl, ⟨t, rfl⟩, ⟨t', rfl⟩⟩ := vals2 r
  refine max_two_ints (I.ok.hd hc) fun h' tk k => ⟨_, H, I.kept k, ?_, q⟩
  by_cases hj : j > i
  · rw [if_pos hj, if_pos hj]; exact ⟨_, rfl⟩
  · rw [if_neg hj, if_neg hj]; exact ⟨_, rfl⟩
theorem call_min2 (hc : X.calm = true) : CallR X (.builtin "min") (fun xs H Q => ∃ i j, xs = [.int i, .int j] ∧ Q (.int (if j < i then j else i)) H) := by
  intro pins s σ H xs us Q I r h
  obtain ⟨i, j, rfl, q⟩ := h
  obtain ⟨u, w', rfl, ⟨t, rfl⟩, ⟨t', rfl⟩⟩ := vals2 r
  refine min_two_ints (I.ok.hd hc) fun h' tk k => ⟨_, H, I.kept k, ?_, q⟩
  by_cases hj : j < i
  · rw [if_pos hj, if_pos hj]; exact ⟨_, rfl⟩
  · rw [if_neg hj, if_neg hj]; exact ⟨_, rfl⟩
/-- len of a str, a bytes, a list, a tuple -/
def LenV (K : PySem.W.Frag) (x : V) (H : Hp) (n : Nat) : Prop :=
  match x with
  | .str y => y.length ≤ sizeLine ∧ n = y.length
  | .byt y => y.size ≤ sizeLine ∧ n = y.size
  | .ref p => (∃ xs, SqL K H p xs ∧ n = xs.length) ∨ ∃ xs, SqT K H p xs ∧ n = xs.length
  | _ => False
end
end L2

namespace L2
open PySem PySem.Spec PyProof.Rows

/-! ### an instance, its attributes a map -/
structure ObjM (h : Heap) (x dx C : Addr) (mA : Str → Option Value) : Prop where
  obj : h.get? x = some (PySem.W.instObj C dx)
  ns : h.Ns1 dx mA
  ne : dx ≠ x

theorem lookIn_ns {h : Heap} {dx : Addr} {mA : Str → Option Value} (n : h.Ns1 dx mA) : ∃ od, h.get? dx = some od ∧ ∀ name, PySem.W.lookIn name od = some (mA name) := by
  obtain ⟨o, es, ep, ho, hd, hk, _, hm⟩ := n
  refine ⟨o, ho, fun name => ?_⟩
  have e := hm name
  unfold nsFind findBy at e
  rw [← Array.find?_toList] at e
  unfold PySem.W.lookIn
  rw [hd]
  dsimp only
  split
  · rename_i y q
    rw [q] at e
    exact congrArg some e
  · rename_i q
    rw [q] at e
    have a : es.toList.any (·.refKey) = false := by
      rw [List.any_eq_false]
      intro y hy
      obtain ⟨z, t, hkey⟩ := hk y (Array.mem_toList_iff.mp hy)
      simp [DictEntry.refKey, hkey]
    have a' : ¬ es.toList.any (·.refKey) = true := by rw [a]; exact Bool.false_ne_true
    rw [if_neg a']
    exact congrArg some e

theorem ObjM.look {h : Heap} {x dx C : Addr} {mA : Str → Option Value} (I : ObjM h x dx C mA) : ∃ od, PySem.W.InstAt h x (PySem.W.instObj C dx) C (some od) ∧ ∀ name, PySem.W.lookIn name od = some (mA name) :=
  let ⟨od, ho, hl⟩ := lookIn_ns I.ns
  ⟨od, ⟨I.obj, rfl, rfl, ho⟩, hl⟩

section
variable {prog : Program} {w : World} {A : Around} {E : Value → Shared → Prop} {s : Shared} {K : PySem.W.Frag} {x dx C f : Addr} {mA : Str → Option Value} {name : Str} {v : Value}





end

/-! ### the attributes as a list of pairs -/
def putF (f : Str) (v : V) : List (Str × V) → List (Str × V)
  | [] => [(f, v)]
  | (g, x) :: r => if g = f then (g, v) :: r else (g, x) :: putF f v r

theorem RelO.some_of {v : V} {o : Option Value} (r : RelO (some v) o) : ∃ u, o = some u ∧ RelV v u := by
  cases o with
  | none => exact (show False from r).elim
  | some u => exact ⟨u, rfl, r⟩
theorem RelO.none_of {o : Option Value} (r : RelO none o) : o = none := by
  cases o with
  | none => rfl
  | some u => exact (show False from r).elim

section
variable {P : Program} {w : World} {H H' : Hp} {h h' : Heap} {a C dx : Addr} {fs fs' : List (Str × V)}
theorem ins_get (hok : HOk P w H h) (e : H a = some (.ins C dx fs)) : ∃ mA, ObjM h a dx C mA ∧ (∀ f, RelO (fs.lookup f) (mA f)) ∧ PySem.Within mA (fs.map (·.1)) ∧ fs.length ≤ 1000 ∧ H dx = some (.own a) := by
  obtain ⟨d, z, ne, ob, mA, n, r, q⟩ := (show ObjOk P w H h a (.ins C dx fs) from hok a _ e)
  exact ⟨mA, ⟨ob, n, ne⟩, r, q, z, d⟩
end

/-! ### what of the text a class must have -/
structure Cls (K : PySem.W.Frag) (C : Addr) : Prop where
  pg : PySem.W.plainGet K C Str.empty = true
  hd : PySem.W.hasDictIn K C = true
  po : PySem.W.plainOver K C = true
  sa : PySem.W.findIn K (.ref C) "__setattr__" = some (some (.builtin "object.__setattr__"))
theorem Cls.get {K : PySem.W.Frag} {C : Addr} (c : Cls K C) (f : Str) : PySem.W.plainGet K C f = true := c.pg
/-- no class of it has the name -/
def NoAttr (K : PySem.W.Frag) (C : Addr) (f : Str) : Prop := PySem.W.findIn K (.ref C) f = some none
/-- a constant of the class -/
structure Con (K : PySem.W.Frag) (C : Addr) (f : Str) (v : V) (u : Value) : Prop where
  at_ : PySem.W.findIn K (.ref C) f = some (some u)
  rel : RelV v u
  get : PySem.W.specialIn K u "__get__" = some none
  cp : PySem.W.copiedNames.contains f = false
/-- a method: a plain def of the class or of one above it -/
structure Meth (K : PySem.W.Frag) (C : Addr) (m : Str) (f : Addr) : Prop where
  at_ : PySem.W.findIn K (.ref C) m = some (some (.ref f))
  fn : PySem.W.isFn K (.ref f) = true
  kp : PySem.W.keepIn K (.ref f) = true

section
variable {X : Cx} {pins : List (Addr × Obj)} {σ : St} {H : Hp} {s : Shared} {a C dx : Addr} {fs : List (Str × V)} {f : Str} {v : V} {A : Around} {E : Value → Shared → Prop}






end

/-! ### readings and rules -/
/-- e.f, an attribute of the instance -/
def tFld (K : PySem.W.Frag) (ta : TE) (f : Str) : TE := fun σ H Q => ta σ H fun x H1 => ∃ a C dx fs v, x = .ref a ∧ H1 a = some (.ins C dx fs) ∧ Cls K C ∧ NoAttr K C f ∧ fs.lookup f = some v ∧ Q v H1
/-- e.f, a constant of the class -/
def tCon (K : PySem.W.Frag) (ta : TE) (f : Str) : TE := fun σ H Q => ta σ H fun x H1 => ∃ a C dx fs v u, x = .ref a ∧ H1 a = some (.ins C dx fs) ∧ Cls K C ∧ Con K C f v u ∧ fs.lookup f = none ∧ Q v H1
/-- e.f = value -/
def sFld (K : PySem.W.Frag) (ta tv : TE) (f : Str) : TS := fun D σ H => tv σ H fun y H1 => ta σ H1 fun x H2 => ∃ a C dx fs, x = .ref a ∧ H2 a = some (.ins C dx fs) ∧ Cls K C ∧ NoAttr K C f ∧ fs.length < 1000 ∧
  D.nx σ (upd H2 a (.ins C dx (putF f y fs)))
/-- an augmented operator on two values -/
def InOp (X : Cx) (op : Operator) (rd : V → V → Hp → VK → Prop) : Prop :=
  ∀ (pins : List (Addr × Obj)) (s : Shared) (σ : St) (H : Hp) (x y : V) (u v : Value) (Q : VK), Inv X pins σ H s → RelV x u → RelV y v → rd x y H Q → wpAny (model X.prog X.w) X.A (inplaceOp op u v) (EP X pins σ Q) X.xe s
/-- e.f op= value -/
def sFldAug (K : PySem.W.Frag) (ta tv : TE) (rd : V → V → Hp → VK → Prop) (f : Str) : TS := fun D σ H => ta σ H fun x H1 => ∃ a C dx fs v, x = .ref a ∧ H1 a = some (.ins C dx fs) ∧ Cls K C ∧ NoAttr K C f ∧ fs.lookup f = some v ∧
  tv σ H1 fun y H2 => rd v y H2 fun z H3 => ∃ dx' fs', H3 a = some (.ins C dx' fs') ∧ fs'.length < 1000 ∧ D.nx σ (upd H3 a (.ins C dx' (putF f z fs')))

section
variable {X : Cx} {o e value : Expr} {f : Str} {pos pos' tpos : Pos} {ta tv : TE}
def rAdd : V → V → Hp → VK → Prop := fun x y H Q => ∃ i j, x = .int i ∧ y = .int j ∧ Q (.int (i + j)) H
def rSub : V → V → Hp → VK → Prop := fun x y H Q => ∃ i j, x = .int i ∧ y = .int j ∧ Q (.int (i - j)) H

end

/-! ### isinstance -/
section
variable {X : Cx} {pins : List (Addr × Obj)} {σ : St} {H : Hp} {s : Shared} {A : Around} {E : Value → Shared → Prop} {Q : Value → Shared → Prop} {c : Value} {b : Bool}
/-- the type of a value, as the fragment's deciders take it; for an instance its class -/
inductive TyOf (K : PySem.W.Frag) (H : Hp) : V → Value → Prop where
  | non : TyOf K H .non (.type "NoneType")
  | bl (x : Bool) : TyOf K H (.bl x) (.type "bool")
  | int (i : Int) : TyOf K H (.int i) (.type "int")
  | str (x : Str) : TyOf K H (.str x) (.type "str")
  | flt (x : UInt64) : TyOf K H (.flt x) (.type "float")
  | lst {a : Addr} {xs : List V} (e : H a = some (.lst xs)) : TyOf K H (.ref a) (.type "list")
  | frz {a : Addr} {o : Obj} {xs : List V} (e : H a = some (.frz o (.lst xs))) : TyOf K H (.ref a) (.type "list")
  | tup {a : Addr} {xs : List V} (e : H a = some (.tup xs)) : TyOf K H (.ref a) (.type "tuple")
  | dK {a : Addr} {kvs : List (Key × V)} (e : H a = some (.dK kvs)) : TyOf K H (.ref a) (.type "dict")
  | dT {a : Addr} {kvs : List (List Key × V)} (e : H a = some (.dT kvs)) : TyOf K H (.ref a) (.type "dict")
  | ins {a C dx : Addr} {fs : List (Str × V)} (e : H a = some (.ins C dx fs)) (cl : Cls K C) (ha : PySem.W.findIn K (.ref C) "__class__" = some (some (.builtin "object.__class__")))
      (hn : PySem.W.specialIn K (.builtin "object.__class__") "__get__" = some (some (.builtin "getset_descriptor.__get__"))) (htk : PySem.W.takesIn K (.builtin "object.__class__") = some true)
      (hm : PySem.W.mroIn K C (.type "object") = some true) : TyOf K H (.ref a) (.ref C)
/-- isinstance(x, c) for one class c, a built-in or an own one: kitOne's answer -/
theorem isinst_ok {x : V} {u t : Value} (I : Inv X pins σ H s) (rx : RelV x u) (ty : TyOf X.K H x t) (e : PySem.W.kitOne X.K t c = some b) (h : ∀ tk, Q (.bool b) { s with toks := tk }) :
    wpAny (model X.prog X.w) A (call (.builtin "isinstance") [u, c]) Q E s := by
  cases ty with
  | non => cases (show u = Value.none from rx); exact PySem.W.kia_one PySem.W.kitx_none I.kIn True.intro e (fun z => nomatch z) h
  | bl y => cases (show u = Value.bool y from rx); exact PySem.W.kia_one PySem.W.kitx_bool I.kIn True.intro e (fun z => nomatch z) h
  | int i => obtain ⟨t, q⟩ := (show ∃ t, u = Value.int i t from rx); cases q; exact PySem.W.kia_one PySem.W.kitx_int I.kIn True.intro e (fun z => nomatch z) h
  | str y => obtain ⟨t, q⟩ := (show ∃ t, u = Value.str y t from rx); cases q; exact PySem.W.kia_one PySem.W.kitx_str I.kIn True.intro e (fun z => nomatch z) h
  | flt y => obtain ⟨t, q⟩ := (show ∃ t, u = Value.float y t from rx); cases q; exact PySem.W.kia_one PySem.W.kitx_float I.kIn True.intro e (fun z => nomatch z) h
  | @lst a xs ea =>
    cases (show u = Value.ref a from rx)
    obtain ⟨_, _, n, _, h1⟩ := (show ObjOk X.prog X.w H s.heap a (.lst xs) from I.hok a _ ea)
    exact PySem.W.kia_one PySem.W.kitx_list I.kIn ⟨_, h1, rfl⟩ e (fun z => nomatch z) h
  | @frz a ob xs ea =>
    cases (show u = Value.ref a from rx)
    obtain ⟨_, _, _, n, _, h1⟩ := (show ObjOk X.prog X.w H s.heap a (.frz ob (.lst xs)) from I.hok a _ ea)
    exact PySem.W.kia_one PySem.W.kitx_list I.kIn ⟨_, h1, rfl⟩ e (fun z => nomatch z) h
  | @tup a xs ea =>
    cases (show u = Value.ref a from rx)
    obtain ⟨_, _, _, p⟩ := (show ObjOk X.prog X.w H s.heap a (.tup xs) from I.hok a _ ea)
    obtain ⟨o, h1, h2, _⟩ := p
    exact PySem.W.kia_one PySem.W.kitx_tuple I.kIn ⟨o, h1, h2⟩ e (fun z => nomatch z) h
  | @dK a kvs ea =>
    cases (show u = Value.ref a from rx)
    obtain ⟨_, _, vs, _, p⟩ := (show ObjOk X.prog X.w H s.heap a (.dK kvs) from I.hok a _ ea)
    obtain ⟨o, es, ep, h1, h2, _⟩ := p
    exact PySem.W.kia_one PySem.W.kitx_dict I.kIn ⟨o, h1, h2.1⟩ e (fun z => nomatch z) h
  | @dT a kvs ea =>
    cases (show u = Value.ref a from rx)
    obtain ⟨_, _, xs, _, o, es, ep, h1, h2, _⟩ := (show ObjOk X.prog X.w H s.heap a (.dT kvs) from I.hok a _ ea)
    exact PySem.W.kia_one PySem.W.kitx_dict I.kIn ⟨o, h1, h2.1⟩ e (fun z => nomatch z) h
  | @ins a C dx fs ea cl ha hn htk hm =>
    cases (show u = Value.ref a from rx)
    obtain ⟨mA, O, _⟩ := ins_get I.hok ea
    obtain ⟨od, J, _⟩ := O.look
    exact PySem.W.kia_one (PySem.W.kitx_own (cl.get _) cl.hd ha hn htk hm) I.kIn J e (fun z => nomatch z) h
end
end L2

namespace L2
open PySem PySem.Spec PyProof.Rows

/-! ### room -/
structure Room (k : Nat) (A : Around) : Prop where
  hd : A.handled = none
  dp : A.depth + 3 * k + 5 < recursionLimit
  un : A.units + 16 * k + 200 < cLine
theorem Room.mono {j k : Nat} {A : Around} (r : Room k A) (h : j ≤ k) : Room j A := ⟨r.hd, by have := r.dp; omega, by have := r.un; omega⟩
theorem Room.deeper {k : Nat} {A : Around} (r : Room (k + 1) A) (env : Env) : Room k (A.deeper env) :=
  ⟨r.hd, by have := r.dp; show A.depth + 1 + 3 * k + 5 < _; omega, by have := r.un; show A.units + 3 + 16 * k + 200 < _; omega⟩
theorem Room.depth {k : Nat} {A : Around} (r : Room k A) : A.depth < recursionLimit := by have := r.dp; omega
theorem Room.units {k : Nat} {A : Around} (r : Room k A) : A.units + 64 < cLine := by have := r.un; omega

/-! ### argument lists and displays -/
def tNil : TA := fun _ H Q => Q [] H
def tCons (ta : TE) (tr : TA) : TA := fun σ H Q => ta σ H fun x H1 => tr σ H1 fun xs H2 => Q (x :: xs) H2
section
variable {X : Cx} {e : Expr} {es : List Expr} {te : TE} {t : TA} {pos : Pos}
theorem pa_nil : PA X [] tNil := fun _ _ _ _ H Q I h => Calls.spliced_nil ⟨[], H, I, .nil, h⟩
theorem pa_cons (ha : PE X e te) (hr : PA X es t) (hs : starEach (e :: es) X.env = (false, eval e X.env) :: starEach es X.env := by rfl) : PA X (e :: es) (tCons te t) := by
  intro pos pins s σ H Q I h
  rw [hs]
  show wpAny _ _ (spliced ((false, eval e X.env) :: backTo pos (starEach es X.env))) _ _ s
  refine Calls.spliced_cons (thn (ha pins s σ H _ I h) fun u s1 ⟨x, H1, I1, r1, q1⟩ => ?_)
  exact thn (hr pos pins s1 σ H1 _ I1 q1) fun us s2 ⟨xs, H2, I2, r2, q2⟩ => ⟨x :: xs, H2, I2, .cons r1 r2, q2⟩

/-- a tuple, a list of written items -/
def tTup (t : TA) : TE := fun σ H Q => t σ H fun xs H1 => xs.length ≤ sizeLine ∧ ∀ p, H1 p = none → Q (.ref p) (upd H1 p (.tup xs))
def tLst (t : TA) : TE := fun σ H Q => t σ H fun xs H1 => xs.length ≤ sizeLine ∧ ∀ p, H1 p = none → Q (.ref p) (upd H1 p (.lst xs))
theorem pe_tup {x1} (h : PA X es t) : PE X (.Tuple es x1 pos) (tTup t) := by
  intro pins s σ H Q I hq
  refine wpAny_Tuple_spliced (thn (h pos pins s σ H _ I hq) fun us s1 ⟨xs, H1, I1, r, z, q⟩ => ⟨by rw [← r.length]; exact z, ?_⟩)
  have hf : H1 s1.heap.objs.size = none := I1.hok.fresh (Nat.le_refl _)
  refine ⟨.ref s1.heap.objs.size, upd H1 s1.heap.objs.size (.tup xs), I1.laid (t' := s1.toks) (fun b u e => Heap.get?_push_of_some _ e) (Nat.le_refl _) ?_, rfl, q _ hf⟩
  exact ⟨z, us, r, ⟨_, Heap.get?_push_size _ rfl, rfl, _, rfl⟩⟩
theorem pe_lst (h : PA X es t) : PE X (.List es pos) (tLst t) := by
  intro pins s σ H Q I hq
  refine wpAny_List_spliced (thn (h pos pins s σ H _ I hq) fun us s1 ⟨xs, H1, I1, r, z, q⟩ => ⟨by rw [← r.length]; exact z, ?_⟩)
  have hf : H1 s1.heap.objs.size = none := I1.hok.fresh (Nat.le_refl _)
  refine ⟨.ref s1.heap.objs.size, upd H1 s1.heap.objs.size (.lst xs), I1.laid (t' := s1.toks) (fun b u e => Heap.get?_push_of_some _ e) (Nat.le_refl _) ?_, rfl, q _ hf⟩
  exact ⟨z, us, 0, r, Heap.get?_push_size _ rfl⟩
end

/-! ### what a def promises -/
/-- a def's promise: the bound arguments in the parameters' order, the heap, the wanted end, the wanted exception -/
abbrev Sp := List V → Hp → VK → XK → Prop
/-- how an exception lies behind a call (file 08 gives it): the callers' frames, abstract heap and state ahead of the call, the wish, the exception, the state -/
abbrev CXT := List Env → Hp → Shared → XK → Value → Shared → Prop

/-- the state at a call -/
structure Env0 (P : Program) (w : World) (K : PySem.W.Frag) (mg : Str → Option Value) (base : Heap) (A : Around) (outer : List Env) (s : Shared) (H : Hp) : Prop where
  frames : A.frames = some outer
  mod : Mod K mg base
  bs : ∀ b o, base.get? b = some o → s.heap.get? b = some o ∧ H b = none
  bsz : base.objs.size ≤ s.heap.objs.size
  funs : s.heap.FunFrames base outer
  frf : ∀ b ∈ frs outer, H b = none
  hok : HOk P w H s.heap
  bare : AllBare s.gens
/-- a call's end -/
def CE (outer : List Env) (P : Program) (w : World) (H : Hp) (s : Shared) (Q : VK) (u : Value) (s' : Shared) : Prop :=
  ∃ v H', s'.os = s.os ∧ AllBare s'.gens ∧ Un (frs outer) [] H H' s.heap s'.heap ∧ HOk P w H' s'.heap ∧ RelV v u ∧ Q v H'
def CR (CX : CXT) (outer : List Env) (P : Program) (w : World) (H : Hp) (s : Shared) (Q : VK) (E : XK) (r : Result) (s' : Shared) : Prop :=
  match r with
  | .ok (.ret u) => CE outer P w H s Q u s'
  | .ok _ => False
  | .error e => CX outer H s E e s'
structure FnOk (P : Program) (w : World) (K : PySem.W.Frag) (mg : Str → Option Value) (base : Heap) (CX : CXT) (k : Nat) (f : Addr) (fd : FuncData) (ps : List Str) (sp : Sp) : Prop where
  len : ∀ vs H Q E, sp vs H Q E → vs.length = ps.length
  run : ∀ (A : Around) (outer : List Env) (s : Shared) (H : Hp) (args : Args) (us : List Value) (vs : List V) (Q : VK) (E : XK), Room k A → Env0 P w K mg base A outer s H → BindsTo s fd args (ps.zip us) → Vals vs us → sp vs H Q E →
    codeAny (model P w) A (.call (.ref f) args) (CR CX outer P w H s Q E) s


section
variable {X : Cx} {pins : List (Addr × Obj)} {σ : St} {H : Hp} {s s' : Shared}
/-- from a body: what a callee wants -/
theorem Inv.env0 (I : Inv X pins σ H s) : Env0 X.prog X.w X.K X.mg X.base X.A X.stack s H :=
  ⟨I.ok.frames, I.ok.mod, I.bs, Nat.le_trans I.ok.bsz I.sz, I.stack, I.stkFree, I.hok, I.bare⟩
/-- behind a call -/
theorem Inv.after {Q : VK} {u : Value} (I : Inv X pins σ H s) (h : CE X.stack X.prog X.w H s Q u s') : EP X pins σ Q u s' := by
  obtain ⟨v, H', os, bare, un, hok, r, q⟩ := h
  obtain ⟨hh, g, d, t, os'⟩ := s'
  obtain rfl : os' = s.os := os
  exact ⟨v, H', I.call (h' := hh) (g' := g) (d' := d) (t' := t) (ch := []) un hok bare (fun b z => absurd z (by simp)), r, q⟩
end

/-! ### calls -/
/-- f(..): the written arguments, then the defaults dvs; E: what is wanted of an exception -/
def tCall (sp : Sp) (dvs : List V) (E : XK) (t : TA) : TE := fun σ H Q => t σ H fun vs H1 => sp (vs ++ dvs) H1 Q E
/-- o.m(..) of an instance of the class at C -/
def tMeth (C : Addr) (m : Str) (sp : Sp) (dvs : List V) (E : XK) (ta : TE) (t : TA) : TE := fun σ H Q => ta σ H fun x H1 => ∃ a dx fs, x = .ref a ∧ H1 a = some (.ins C dx fs) ∧ fs.lookup m = none ∧
  t σ H1 fun vs H2 => sp (x :: (vs ++ dvs)) H2 Q E
/-- C(..): a new instance and its dict, then __init__ -/
def tMake (C : Addr) (sp : Sp) (dvs : List V) (E : XK) (t : TA) : TE := fun σ H Q => t σ H fun vs H1 => ∀ x dx, H1 x = none → H1 dx = none → dx ≠ x →
  sp (.ref x :: (vs ++ dvs)) (upd (upd H1 dx (.own x)) x (.ins C dx [])) (fun v H2 => v = .non ∧ Q (.ref x) H2) E

/-- how the parameters are bound: us the positional arguments, kw the keywords' values by name, ds the defaults that fill up -/
def Binds (K : PySem.W.Frag) (fd : FuncData) (ps : List Str) (ds : List Value) : Prop :=
  ∀ (s : Shared) (us : List Value), K.In s.heap → (us ++ ds).length = ps.length → BindsTo s fd ⟨us, []⟩ (ps.zip (us ++ ds))
/-- every parameter is given -/
theorem Binds.all {K : PySem.W.Frag} {fd : FuncData} {ps : List Str} (h : ∀ us : List Value, us.length = ps.length → bindArgs fd ⟨us, []⟩ = pure (ps.zip us)) : Binds K fd ps [] := fun s us _ hl => by
  rw [List.append_nil] at hl ⊢
  exact .of_eq (h us hl)

/-- an exception of a callee reaches what this body wants of exceptions -/
def Passes (CX : CXT) (X : Cx) (E : XK) : Prop := ∀ (pins : List (Addr × Obj)) (σ : St) (H : Hp) (s : Shared) (e : Value) (s' : Shared), Inv X pins σ H s → CX X.stack H s E e s' → X.xe e s'

section
variable {X : Cx} {CX : CXT} {k : Nat} {f C : Addr} {fd : FuncData} {ps : List Str} {sp : Sp} {dvs : List V} {ds : List Value} {E : XK} {x m : Str} {p pos apos : Pos} {e o : Expr} {es : List Expr} {ta : TE} {t : TA}

/-- the callee runs -/
theorem run_fn {pins : List (Addr × Obj)} {σ : St} {H : Hp} {s : Shared} {Q : VK} {us : List Value} {vs : List V} (F : FnOk X.prog X.w X.K X.mg X.base CX k f fd ps sp) (hr : Room k X.A) (hb : Binds X.K fd ps ds) (hd : Vals dvs ds) (hx : Passes CX X E)
    (I : Inv X pins σ H s) (r : Vals vs us) (h : sp (vs ++ dvs) H Q E) : wpAny (model X.prog X.w) X.A (call (.ref f) us) (EP X pins σ Q) X.xe s := by
  have r2 : Vals (vs ++ dvs) (us ++ ds) := r.append hd
  have hl : (us ++ ds).length = ps.length := by rw [← r2.length]; exact F.len _ _ _ _ h
  refine wpAny_call (codeAny_mono (F.run X.A X.stack s H ⟨us, []⟩ (us ++ ds) (vs ++ dvs) Q E hr I.env0 (hb s us I.kIn hl) r2 h) fun r s' hq => ?_)
  cases r with
  | error e => exact hx pins σ H s e s' I hq
  | ok fl =>
    cases fl with
    | ret u => exact I.after hq
    | next => exact False.elim hq
    | brk => exact False.elim hq
    | cont => exact False.elim hq

theorem pe_call (F : FnOk X.prog X.w X.K X.mg X.base CX k f fd ps sp) (hr : Room k X.A) (hg : Gl X x) (hm : X.mg x = some (.ref f)) (hk : PySem.W.keepIn X.K (.ref f) = true) (hb : Binds X.K fd ps ds) (hd : Vals dvs ds) (hx : Passes CX X E)
    (ha : PA X (e :: es) t) (hdb : (x == ("__debug__" : Str)) = false := by decide) (he : starEach (e :: es) X.env = (false, eval e X.env) :: starEach es X.env := by rfl) (hpl : (backTo pos (starEach es X.env)).any (·.1) = false := by rfl) :
    PE X (.Call (.Name x p) (e :: es) [] pos) (tCall sp dvs E t) := by
  intro pins s σ H Q I h
  refine wpAny_Call_Name_kw (ld_glob I hg hm ?_ hdb)
  refine PySem.W.callWith_K (h₀ := X.base) I.ok.mod.kin hk (thn (ha pos pins s σ H _ I h) fun us s1 ⟨vs, H1, I1, r, q⟩ => ⟨I1.kIn, ?_⟩) he hpl
  exact run_fn F hr hb hd hx I1 r q


/-- what a class must have to be made -/
structure Mk (K : PySem.W.Frag) (C f : Addr) : Prop where
  makes : PySem.W.makesIn K C = true
  init : PySem.W.findIn K (.ref C) "__init__" = some (some (.ref f))
  fn : PySem.W.isFn K (.ref f) = true
  kp : PySem.W.keepIn K (.ref C) = true

end

/-! ### keywords -/
/-- the values of the keywords, from the left -/
def PK (X : Cx) (kws : List Keyword) (t : TA) : Prop :=
  ∀ (pos : Pos) (pins : List (Addr × Obj)) (s : Shared) (σ : St) (H : Hp) (Q : List V → Hp → Prop), Inv X pins σ H s → t σ H Q → wpAny (model X.prog X.w) X.A (evalAll ((backToKw pos (keywordEach kws X.env)).map (·.2))) (AP X pins σ Q) X.xe s
section
variable {X : Cx} {CX : CXT} {k : Nat} {f C : Addr} {fd : FuncData} {ps ks : List Str} {sp : Sp} {E : XK} {x m : Str} {p pos apos kpos : Pos} {e o : Expr} {es : List Expr} {kws : List Keyword} {te ta : TE} {t tk : TA} {nm : Option Str}

/-- how a call with keywords binds: g puts the positional values us and the keywords' values ws (names ks) in the parameters' order, defaults among them -/
structure KBinds (K : PySem.W.Frag) (fd : FuncData) (ps ks : List Str) (g : List Value → List Value → List Value) (gV : List V → List V → List V) : Prop where
  to : ∀ (s : Shared) (us ws : List Value), K.In s.heap → (g us ws).length = ps.length → BindsTo s fd ⟨us, ks.zip ws⟩ (ps.zip (g us ws))
  rel : ∀ {vs : List V} {us : List Value} {zs : List V} {ws : List Value}, Vals vs us → Vals zs ws → Vals (gV vs zs) (g us ws)
def tCallK (sp : Sp) (gV : List V → List V → List V) (E : XK) (t tk : TA) : TE := fun σ H Q => t σ H fun vs H1 => tk σ H1 fun zs H2 => sp (gV vs zs) H2 Q E
variable {g : List Value → List Value → List Value} {gV : List V → List V → List V}
end

/-! ### a def's body keeps its promise -/
/-- names: the parameters first -/
structure FnScope (N P : List Str) (sc : Scope) : Prop where
  kind : sc.kind = .function
  co : sc.isCoroutine = false
  gen : sc.isGenerator = false
  nd : N.Nodup
  pre : N.take P.length = P
  par : ∀ x ∈ P, sc.names.lookup x = some .local ∨ sc.names.lookup x = some .cell
  nofree : ∀ y ∈ sc.names, y.2 ≠ .free

theorem bindL_out {kindOf : Str → Option NameKind} {x : Str} : ∀ {binds : List (Str × Value)} {m : Str → Option Value}, (∀ v, (x, v) ∉ binds) → bindL kindOf binds m x = m x
  | [], _, _ => rfl
  | (n, v) :: r, m, h => by
    unfold bindL
    rw [bindL_out fun w hw => h w (List.mem_cons_of_mem _ hw)]
    split
    · have : x ≠ n := by rintro rfl; exact h v List.mem_cons_self
      simp [this]
    · rfl
theorem bindC_out {kindOf : Str → Option NameKind} {x : Str} : ∀ {binds : List (Str × Value)} {m : Str → Option Value}, (∀ v, (x, v) ∉ binds) → bindC kindOf binds m x = m x
  | [], _, _ => rfl
  | (n, v) :: r, m, h => by
    unfold bindC
    rw [bindC_out fun w hw => h w (List.mem_cons_of_mem _ hw)]
    split
    · rfl
    · have : x ≠ n := by rintro rfl; exact h v List.mem_cons_self
      simp [this]
theorem bindL_get {kindOf : Str → Option NameKind} {x : Str} {v : Value} : ∀ {P : List Str} {vs : List Value} {i : Nat} {m : Str → Option Value}, P.Nodup → P[i]? = some x → vs[i]? = some v → kindOf x = some .local →
    bindL kindOf (P.zip vs) m x = some v
  | [], _, _, _, _, h, _, _ => by simp at h
  | _ :: _, [], _, _, _, _, h, _ => by simp at h
  | p :: P, w :: vs, 0, m, nd, h1, h2, hk => by
    simp at h1 h2; subst h1; subst h2
    show bindL kindOf ((p, w) :: P.zip vs) m p = _
    unfold bindL
    rw [bindL_out fun v hv => (List.nodup_cons.mp nd).1 (List.of_mem_zip hv).1, if_pos hk]
    simp
  | p :: P, w :: vs, i + 1, m, nd, h1, h2, hk => by
    show bindL kindOf ((p, w) :: P.zip vs) m x = _
    unfold bindL
    exact bindL_get (i := i) (List.nodup_cons.mp nd).2 (by simpa using h1) (by simpa using h2) hk
theorem bindC_get {kindOf : Str → Option NameKind} {x : Str} {v : Value} : ∀ {P : List Str} {vs : List Value} {i : Nat} {m : Str → Option Value}, P.Nodup → P[i]? = some x → vs[i]? = some v → kindOf x ≠ some .local →
    bindC kindOf (P.zip vs) m x = some v
  | [], _, _, _, _, h, _, _ => by simp at h
  | _ :: _, [], _, _, _, _, h, _ => by simp at h
  | p :: P, w :: vs, 0, m, nd, h1, h2, hk => by
    simp at h1 h2; subst h1; subst h2
    show bindC kindOf ((p, w) :: P.zip vs) m p = _
    unfold bindC
    rw [bindC_out fun v hv => (List.nodup_cons.mp nd).1 (List.of_mem_zip hv).1, if_neg hk]
    simp
  | p :: P, w :: vs, i + 1, m, nd, h1, h2, hk => by
    show bindC kindOf ((p, w) :: P.zip vs) m x = _
    unfold bindC
    exact bindC_get (i := i) (List.nodup_cons.mp nd).2 (by simpa using h1) (by simpa using h2) hk

/-- the names' values at the entry -/
def start (N : List Str) (vs : List V) : St := vs.map some ++ List.replicate (N.length - vs.length) none

/-- the context of a def's body, at its entry; an exception leaves the frame, then lies as CX says -/
def cxOf (CX : CXT) (P : Program) (w : World) (K : PySem.W.Frag) (mg : Str → Option Value) (base : Heap) (N : List Str) (qual : Str) (scope : Scope) (f : Addr) (cd : Value) (A : Around) (outer : List Env) (s : Shared) (H : Hp) (E : XK) : Cx where
  prog := P
  w := w
  K := K
  mg := mg
  base := base
  A := A.deeper (envOfC qual scope s.heap.objs.size f cd)
  N := N
  s₀ := s
  H₀ := H
  env := envOfC qual scope s.heap.objs.size f cd
  outer := outer
  stack := envOfC qual scope s.heap.objs.size f cd :: outer
  ex := []
  calm := true
  fn := fun _ => true
  pn := []
  xe := fun e s' => wpAny (model P w) (A.deeper (envOfC qual scope s.heap.objs.size f cd)) (leaving (envOfC qual scope s.heap.objs.size f cd) e) (fun _ s'' => CX outer H s E e s'') (fun e' s'' => CX outer H s E e' s'') s'

theorem cell_has {sc : Scope} {n : Nat} {x : Str} (h : sc.names.lookup x = some .cell) : ∃ c, (cellsFrom n sc.names []).lookup x = some c := by
  have q := PySem.W.cellsFrom_some sc.names n [] (.inl h)
  exact Option.isSome_iff_exists.mp q

theorem inv_start {CX : CXT} {P : Program} {w : World} {K : PySem.W.Frag} {mg : Str → Option Value} {base : Heap} {N ps : List Str} {qual : Str} {scope : Scope} {f : Addr} {cd : Value} {A : Around} {outer : List Env} {s s1 : Shared} {H : Hp} {E : XK} {us : List Value} {vs : List V}
    (S : FnScope N ps scope) (hd : A.handled = none) (e0 : Env0 P w K mg base A outer s H) (hl : vs.length = ps.length) (r : Vals vs us)
    (x : InCallC s s.heap.objs.size (bindL (envOfC qual scope s.heap.objs.size f cd).kindOf (ps.zip us) fun _ => none) (cellsFrom (s.heap.objs.size + 1) scope.names []) (bindC (envOfC qual scope s.heap.objs.size f cd).kindOf (ps.zip us) fun _ => none) s1) :
    Inv (cxOf CX P w K mg base N qual scope f cd A outer s H E) [] (start N vs) H s1 := by
  have hpl : ps.length ≤ N.length := by have := congrArg List.length S.pre; rw [List.length_take] at this; omega
  obtain ⟨h1, tk, rfl, hk⟩ := x.done
  have noA : ∀ b : Addr, b ∉ (cxOf CX P w K mg base N qual scope f cd A outer s H E).ex := fun b z => absurd (show b ∈ ([] : List Addr) from z) (by simp)
  refine ⟨⟨e0.mod, S.kind, rfl, rfl, Nat.le_refl _, fun y z c h1 h2 => ?_, fun y hy => ?_, fun y c _ h => ?_, fun _ => hd, Around.frames_deeper e0.frames, .inr ⟨rfl, rfl⟩, fun b z => absurd z (noA b), e0.bs, e0.bsz, fun b _ _ => noA b, fun b z => absurd z (noA b), e0.funs, e0.frf⟩,
    rfl, e0.bare, Un.kept hk, ⟨_, x.toInCall.ns, fun i y v h1 h2 h3 => ?_⟩, fun y c h => ⟨_, x.cell y c h⟩, e0.hok.fresh (Nat.le_refl _), fun y c h => ?_, fun p hp => absurd (show p ∈ ([] : List (Addr × Obj)) from hp) (by simp), e0.hok.kept hk, ?_⟩
  · exact name_of_addr x.apart (PySem.mem_of_lookup h1) (PySem.mem_of_lookup h2)
  · have hy : scope.names.lookup y = some .cell ∨ scope.names.lookup y = some .free := hy
    rcases hy with hy | hy
    · exact cell_has hy
    · exact absurd rfl (S.nofree _ (PySem.mem_of_lookup hy))
  · exact Nat.le_of_lt (x.above y c (PySem.mem_of_lookup h))
  · have hi : i < vs.length := by
      unfold start at h2
      by_cases hi : i < vs.length
      · exact hi
      · rw [List.getElem?_append_right (by simpa using hi)] at h2
        rw [List.getElem?_replicate] at h2
        split at h2 <;> cases h2
    have ha : vs[i]? = some v := by
      unfold start at h2
      rw [List.getElem?_append_left (by simpa using hi), List.getElem?_map] at h2
      cases e : vs[i]? with
      | none => rw [e] at h2; cases h2
      | some a => rw [e] at h2; cases h2; rfl
    obtain ⟨u, hu, rv⟩ := r.get ha
    have hp : ps[i]? = some y := by
      rw [← S.pre, List.getElem?_take_of_lt (by omega)]; exact h1
    have ndP : ps.Nodup := by rw [← S.pre]; exact S.nd.sublist (List.take_sublist _ _)
    refine ⟨u, rv, ?_⟩
    rcases S.par y (List.mem_of_getElem? hp) with k | k
    · exact .inl ⟨k, bindL_get ndP hp hu k⟩
    · obtain ⟨c, e⟩ := cell_has (n := s.heap.objs.size + 1) k
      refine .inr ⟨.inl k, c, e, ?_⟩
      have q := x.cell y c e
      rw [bindC_get ndP hp hu (by show scope.names.lookup y ≠ _; rw [k]; decide)] at q
      exact q
  · exact e0.hok.fresh (Nat.le_of_lt (x.above y c (PySem.mem_of_lookup h)))
  · unfold start
    show _ = N.length
    rw [List.length_append, List.length_map, List.length_replicate]
    omega

/-- THE RULE: a def (or a method) of the text, by its body. The body's reading t is chosen for each entry; it is run at the parameters' values -/
theorem fn_of {CX : CXT} {P : Program} {w : World} {K : PySem.W.Frag} {mg : Str → Option Value} {base : Heap} {k : Nat} {f : Addr} {name qual : Str} {params : Arguments} {body : List Stmt} {scope : Scope} {dV kV doc pm cdv ct oc : Value} {an od : Option Addr}
    {osl : Array (Option Value)} {N ps : List Str} {sp : Sp} (lk : K.lookup f = some ⟨oc, od, .func (PySem.W.fnOf name qual params body scope dV kV doc pm an cdv ct), osl⟩) (hcd : PySem.W.codeIn K cdv qual = true) (S : FnScope N ps scope)
    (len : ∀ vs H Q E, sp vs H Q E → vs.length = ps.length)
    (hbody : ∀ (A : Around) (outer : List Env) (s : Shared) (H : Hp) (vs : List V) (Q : VK) (E : XK), Room k (A.deeper (envOfC qual scope s.heap.objs.size f cdv)) → sp vs H Q E →
      ∃ t, PSs (cxOf CX P w K mg base N qual scope f cdv A outer s H E) body t ∧ t { nx := fun _ H' => Q .non H', rt := Q } (start N vs) H) :
    FnOk P w K mg base CX (k + 1) f (PySem.W.fnOf name qual params body scope dV kV doc pm an cdv ct) ps sp := by
  refine ⟨len, fun A outer s H args us vs Q E hr e0 hb r hsp => ?_⟩
  have hl := len _ _ _ _ hsp
  have KX : K.In s.heap := e0.mod.kin.keeps fun b o e => (e0.bs b o e).1
  have lim : s.heap.NoLimit := e0.mod.nolimit.keeps fun b o e => (e0.bs b o e).1
  have hkind : ∀ y ∈ ps.zip us, scope.names.lookup y.1 = some .local ∨ (scope.names.lookup y.1 = some .cell ∧ ((cellsFrom (s.heap.objs.size + 1) scope.names []).lookup y.1).isSome = true) := fun ⟨n, v⟩ hy => by
    rcases S.par n (List.of_mem_zip hy).1 with q | q
    · exact .inl q
    · exact .inr ⟨q, PySem.W.cellsFrom_some _ _ _ (.inl q)⟩
  refine codeAny_call_function hr.depth (KX _ _ lk) rfl S.co S.gen rfl (PySem.W.codeRec_of KX hcd) (hb _ _ _ _ ?_)
  refine wpAny_newFunctionEnv_cells S.kind hkind fun env he s1 x => ?_
  subst he
  refine ⟨lim.keeps x.toInCall.keep, codeAny_func ?_⟩
  obtain ⟨t, ht, hq⟩ := hbody A outer s H vs Q E (hr.deeper _) hsp
  have I : Inv (cxOf CX P w K mg base N qual scope f cdv A outer s H E) [] (start N vs) H s1 := inv_start S hr.hd e0 hl r x
  refine wpAny_mono (ht [] s1 (start N vs) H _ I hq) (fun fl s' hs => ?_) fun e s' hs => hs
  have fin : ∀ {σ' : St} {H' : Hp} {v : V} {u : Value}, Inv (cxOf CX P w K mg base N qual scope f cdv A outer s H E) [] σ' H' s' → RelV v u → Q v H' → CE outer P w H s Q u s' :=
    fun {σ' H' v u} J rv q => ⟨v, H', J.os, J.bare, J.base, J.hok, rv, q⟩
  cases fl with
  | ret u =>
    obtain ⟨v, σ', H', J, rv, q⟩ := hs
    exact fin J rv q
  | next =>
    obtain ⟨σ', H', J, q⟩ := hs
    exact fin (v := V.non) (u := Value.none) J rfl q
  | brk =>
    obtain ⟨_, _, _, q⟩ := hs
    exact False.elim q
  | cont =>
    obtain ⟨_, _, _, q⟩ := hs
    exact False.elim q
end L2

namespace L2
open PySem PySem.Spec PyProof.Rows
section
variable {X : Cx} {x : Str} {p pos : Pos} {e : Expr} {es : List Expr} {t : TA} {id T : String} {r : List V → Hp → VK → Prop}

def tCB (r : List V → Hp → VK → Prop) (t : TA) : TE := fun σ H Q => t σ H fun vs H1 => r vs H1 Q
/-- f(e, ..), f a built-in function -/
theorem pe_callB (hc : CallR X (.builtin id) r) (hg : Gl X x) (hm : X.mg x = none) (hv : bootBuiltins x = some (.builtin id)) (ha : PA X (e :: es) t) (hn : x ≠ "__name__" := by decide) (hdb : (x == ("__debug__" : Str)) = false := by decide)
    (he : starEach (e :: es) X.env = (false, eval e X.env) :: starEach es X.env := by rfl) (hpl : (backTo pos (starEach es X.env)).any (·.1) = false := by rfl) : PE X (.Call (.Name x p) (e :: es) [] pos) (tCB r t) := by
  intro pins s σ H Q I h
  refine wpAny_Call_Name_kw (ld_blt I hg hm hv ?_ hn hdb)
  exact PyProof.Rows.callWith_builtin1 (thn (ha pos pins s σ H _ I h) fun us s1 ⟨vs, H1, I1, r1, q1⟩ => hc pins s1 σ H1 vs us Q I1 r1 q1) he hpl
/-- T(e, ..), T a built-in type -/
theorem pe_callTy (hc : CallR X (.type T) r) (hg : Gl X x) (hm : X.mg x = none) (hv : bootBuiltins x = some (.type T)) (ha : PA X (e :: es) t) (hn : x ≠ "__name__" := by decide) (hdb : (x == ("__debug__" : Str)) = false := by decide)
    (he : starEach (e :: es) X.env = (false, eval e X.env) :: starEach es X.env := by rfl) (hpl : (backTo pos (starEach es X.env)).any (·.1) = false := by rfl) : PE X (.Call (.Name x p) (e :: es) [] pos) (tCB r t) := by
  intro pins s σ H Q I h
  refine wpAny_Call_Name_kw (ld_blt I hg hm hv ?_ hn hdb)
  exact PyProof.Rows.callWith_type1 (thn (ha pos pins s σ H _ I h) fun us s1 ⟨vs, H1, I1, r1, q1⟩ => hc pins s1 σ H1 vs us Q I1 r1 q1) he hpl
end
end L2

namespace HT
open PySem PyProof.Rows

/-- t < u of tuples of ints -/
def lexLt : List Int → List Int → Bool
  | [], [] => false
  | [], _ :: _ => true
  | _ :: _, [] => false
  | x :: xs, y :: ys => if x = y then lexLt xs ys else decide (x < y)
theorem lexLt_cons (x y : Int) (xs ys : List Int) : lexLt (x :: xs) (y :: ys) = if x = y then lexLt xs ys else decide (x < y) := rfl
theorem lexLt_nil_nil : lexLt [] [] = false := rfl
theorem lexLt_nil_cons (y : Int) (ys : List Int) : lexLt [] (y :: ys) = true := rfl
theorem lexLt_cons_nil (x : Int) (xs : List Int) : lexLt (x :: xs) [] = false := rfl


section
open PySem.SeqAt
open PySem.AutoSeq1 (wpAny_loadPart')
open PySem.MeetsSeq PySem.MeetsSeq2 PySem.MeetsSeq3

end

section
variable {prog : Program} {w : World} {A : Around} {E : Value → Shared → Prop} {s : Shared}



/-! ### t[a:b], not the whole -/
/-- a slice's bound as a place among n (d where it is left out) -/
def sIx (n d : Nat) : Option Int → Nat
  | none => d
  | some v => if v < 0 then (v + (n : Int)).toNat else min v.toNat n
theorem sIx_nat (n d k : Nat) : sIx n d (some (k : Int)) = min k n := by
  show (if (k : Int) < 0 then ((k : Int) + (n : Int)).toNat else min (k : Int).toNat n) = min k n
  rw [if_neg (by omega), Int.toNat_natCast]

end
end HT

namespace L2
open PySem PySem.Spec PyProof.Rows

/-! ### the parts of a slice -/
abbrev TO := St → Hp → (Option Int → Hp → Prop) → Prop
/-- a slice's part (left out, or an int) -/
def PO (X : Cx) (e : Option Expr) (t : TO) : Prop :=
  ∀ (pins : List (Addr × Obj)) (s : Shared) (σ : St) (H : Hp) (Q : Option Int → Hp → Prop), Inv X pins σ H s → t σ H Q →
    wpAny (model X.prog X.w) X.A (evalPart e X.env) (fun u s' => ∃ o H', Inv X pins σ H' s' ∧ IsPart u o ∧ Q o H') X.xe s
def tNoPart : TO := fun _ H Q => Q none H
def tPart (t : TE) : TO := fun σ H Q => t σ H fun x H1 => ∃ i, x = .int i ∧ Q (some i) H1

theorem intsAre_of {ns : List Int} : ∀ {us : List Value}, Vals (ns.map V.int) us → IntsAre us ns := by
  induction ns with
  | nil => intro us r; rw [List.map_nil] at r; cases r; exact .nil
  | cons n ns ih =>
    intro us r
    rw [List.map_cons] at r
    cases r with
    | cons r1 r2 =>
      obtain ⟨t, e⟩ := r1
      subst e
      exact .cons n t (ih r2)

section
variable {X : Cx} {e : Expr} {te : TE} {lo hi : Option Expr} {tl th : TO} {pos p2 : Pos}

theorem po_none : PO X none tNoPart := by
  intro pins s σ H Q I h
  rw [evalPart_none]
  exact wpAny_pure ⟨none, H, I, .none, h⟩
theorem po_some (h : PE X e te) : PO X (some e) (tPart te) := by
  intro pins s σ H Q I hw
  rw [evalPart_some]
  refine thn (h pins s σ H _ I hw) fun u s1 ⟨x, H1, I1, r1, q1⟩ => ?_
  obtain ⟨i, rfl, q⟩ := q1
  obtain ⟨t, rfl⟩ := r1
  exact ⟨some i, H1, I1, .int i t, q⟩

/-- what a slice of a value is, by values: the slice object stands at sl -/
def SlR (X : Cx) (r : V → Option Int → Option Int → Hp → VK → Prop) : Prop :=
  ∀ (pins : List (Addr × Obj)) (s : Shared) (σ : St) (H : Hp) (x : V) (v vl vu : Value) (lo hi : Option Int) (sl : Addr) (Q : VK), Inv X pins σ H s → RelV x v → s.heap.IsSliceOf sl vl vu .none → IsPart vl lo → IsPart vu hi → r x lo hi H Q →
    ∃ T id, typeLookup (.type T) "__getitem__" = pure (some (.builtin id)) ∧ s.TypeIs v T ∧ wpAny (model X.prog X.w) X.A (getItem v (.ref sl)) (EP X pins σ Q) X.xe s
def tSl (r : V → Option Int → Option Int → Hp → VK → Prop) (te : TE) (tl th : TO) : TE := fun σ H Q => te σ H fun x H1 => tl σ H1 fun l H2 => th σ H2 fun u H3 => r x l u H3 Q
/-- a[lo:hi], any a -/
theorem pe_slice {r : V → Option Int → Option Int → Hp → VK → Prop} (hr : SlR X r) (he : PE X e te) (hl : PO X lo tl) (hu : PO X hi th) : PE X (.Subscript e (.Slice lo hi none p2) pos) (tSl r te tl th) := by
  intro pins s σ H Q I h
  refine Subscript_ (thn (he pins s σ H _ I h) fun v s1 ⟨x, H1, I1, r1, q1⟩ => ?_)
  refine wpAny_Slice (thn (hl pins s1 σ H1 _ I1 q1) fun vl s2 ⟨l, H2, I2, pl, q2⟩ => thn (hu pins s2 σ H2 _ I2 q2) fun vu s3 ⟨u, H3, I3, pu, q3⟩ => ?_)
  rw [evalPart_none]
  refine wpAny_pure ?_
  have I4 : Inv X pins σ H3 { s3 with heap := s3.heap.push { cls := .type "slice", data := .fields #[vl, vu, .none] } } := I3.kept (t' := s3.toks) fun b ob q => Heap.get?_push_of_some _ q
  obtain ⟨T, id, hT, ht, hg⟩ := hr pins { s3 with heap := s3.heap.push { cls := .type "slice", data := .fields #[vl, vu, .none] } } σ H3 x v vl vu l u s3.heap.objs.size Q I4 r1 (Heap.IsSliceOf.new ..) pl pu q3
  show wpAny (model X.prog X.w) X.A (subscriptTail e (.Slice lo hi none p2) v (.ref s3.heap.objs.size)) (EP X pins σ Q) X.xe { s3 with heap := s3.heap.push { cls := .type "slice", data := .fields #[vl, vu, .none] } }
  exact tail_any (ops := [.ref s3.heap.objs.size, v]) ht hT hg (by with_unfolding_all rfl)

/-- the items of xs[lo:hi] -/
def cutV (xs : List V) (lo hi : Option Int) : List V := (xs.drop (HT.sIx xs.length 0 lo)).take (HT.sIx xs.length xs.length hi - HT.sIx xs.length 0 lo)
theorem cutV_length (xs : List V) (lo hi : Option Int) : (cutV xs lo hi).length ≤ xs.length := by
  unfold cutV
  rw [List.length_take, List.length_drop]
  omega
/-- t[lo:hi], not the whole of it (the whole would be t itself) -/
def rSlT (K : PySem.W.Frag) : V → Option Int → Option Int → Hp → VK → Prop := fun x lo hi H Q => ∃ a xs, x = .ref a ∧ SqT K H a xs ∧
  ¬ (HT.sIx xs.length 0 lo = 0 ∧ HT.sIx xs.length xs.length hi = xs.length) ∧ ∀ p, H p = none → Q (.ref p) (upd H p (.tup (cutV xs lo hi)))

/-! ### t < u, t + u -/
def rLtT (K : PySem.W.Frag) : R2 := fun x y H Q => ∃ a b ns ms, x = .ref a ∧ y = .ref b ∧ SqT K H a (ns.map V.int) ∧ SqT K H b (ms.map V.int) ∧ Q (.bl (HT.lexLt ns ms)) H
/-- t + u, t not empty: u empty gives t itself -/
def rCatT (K : PySem.W.Frag) : R2 := fun x y H Q => ∃ a b xs ys, x = .ref a ∧ y = .ref b ∧ SqT K H a xs ∧ SqT K H b ys ∧ xs ≠ [] ∧ xs.length + ys.length ≤ sizeLine ∧
  (ys = [] → Q (.ref a) H) ∧ (ys ≠ [] → ∀ p, H p = none → Q (.ref p) (upd H p (.tup (xs ++ ys))))
end
end L2

namespace L2
open PySem PySem.Spec PyProof.Rows

/-! ### places -/
/-- the place that an index of any sign means -/
def ixN (n : Nat) (i : Int) : Option Nat := if 0 ≤ i then (if i < n then some i.toNat else none) else if -(n : Int) ≤ i then some (i + n).toNat else none
def atI {α : Type} (xs : List α) (i : Int) : Option α := (ixN xs.length i).bind fun j => xs[j]?
theorem ixN_seq {n : Nat} {i : Int} {j : Nat} (h : ixN n i = some j) : seqIndex? i n = some j ∧ j < n ∧ -(n : Int) ≤ i ∧ i < n := by
  unfold ixN at h
  by_cases h0 : 0 ≤ i
  · rw [if_pos h0] at h
    by_cases h1 : i < n
    · rw [if_pos h1] at h
      have e : i.toNat = j := Option.some.inj h
      exact ⟨by rw [seqIndex_of h0 h1, e], by omega, by omega, h1⟩
    · rw [if_neg h1] at h; cases h
  · rw [if_neg h0] at h
    by_cases h1 : -(n : Int) ≤ i
    · rw [if_pos h1] at h
      have e : (i + n).toNat = j := Option.some.inj h
      exact ⟨by rw [seqIndex_neg (by omega) h1, e], by omega, h1, by omega⟩
    · rw [if_neg h1] at h; cases h
theorem atI_get {α : Type} {xs : List α} {i : Int} {v : α} (h : atI xs i = some v) : ∃ j, seqIndex? i xs.length = some j ∧ xs[j]? = some v ∧ j < xs.length ∧ -(xs.length : Int) ≤ i ∧ i < xs.length := by
  unfold atI at h
  cases e : ixN xs.length i with
  | none => rw [e] at h; cases h
  | some j =>
    rw [e] at h
    obtain ⟨h1, h2, h3, h4⟩ := ixN_seq e
    exact ⟨j, h1, h, h2, h3, h4⟩
theorem atI_nat {α : Type} {xs : List α} {j : Nat} {v : α} (h : xs[j]? = some v) : atI xs (j : Int) = some v := by
  have hj : j < xs.length := (List.getElem?_eq_some_iff.mp h).1
  have e : ixN xs.length (j : Int) = some j := by
    unfold ixN
    rw [if_pos (by omega), if_pos (by omega)]; simp
  unfold atI; rw [e]; exact h

/-! ### what may be subscripted -/
/-- what stands as an index of a plain subscript -/
def PlainIx (b : Expr) : Prop := ∀ o i, subscripted b false o i = operate [o, i] (getItem o i)
/-- a subscript by values -/
def IxR (X : Cx) (r : R2) : Prop :=
  ∀ (value slice : Expr) (pins : List (Addr × Obj)) (s : Shared) (σ : St) (H : Hp) (x y : V) (v u : Value) (Q : VK), Inv X pins σ H s → RelV x v → RelV y u → r x y H Q →
    subscripted slice false v u = operate [v, u] (getItem v u) → wpAny (model X.prog X.w) X.A (subscriptTail value slice v u) (EP X pins σ Q) X.xe s
/-- a call of a builtin's method by values: the receiver, the arguments -/
def MtR (X : Cx) (id : String) (r : V → List V → Hp → VK → Prop) : Prop :=
  ∀ (pins : List (Addr × Obj)) (s : Shared) (σ : St) (H : Hp) (x : V) (xs : List V) (v : Value) (us : List Value) (Q : VK), Inv X pins σ H s → RelV x v → Vals xs us → r x xs H Q →
    wpAny (model X.prog X.w) X.A (call (.builtin id) (v :: us)) (EP X pins σ Q) X.xe s
section
variable {X : Cx} {a b : Expr} {ta tb : TE} {pos : Pos}
/-- a[b] -/
theorem pe_ix {r : R2} (hr : IxR X r) (ha : PE X a ta) (hb : PE X b tb) (hs : PlainIx b) : PE X (.Subscript a b pos) (tOp r ta tb) := by
  intro pins s σ H Q I h
  exact Subscript_ (binT ha hb I h fun v u s2 x y H2 I2 rx ry q => hr a b pins s2 σ H2 x y v u Q I2 rx ry q (hs _ _))

def rIxL (K : PySem.W.Frag) : R2 := fun x y H Q => ∃ p xs i v, x = .ref p ∧ y = .int i ∧ SqL K H p xs ∧ atI xs i = some v ∧ Q v H
def rIxT (K : PySem.W.Frag) : R2 := fun x y H Q => ∃ p xs i v, x = .ref p ∧ y = .int i ∧ SqT K H p xs ∧ atI xs i = some v ∧ Q v H
def rIxS : R2 := fun x y H Q => ∃ z i c, x = .str z ∧ y = .int i ∧ z.length ≤ sizeLine ∧ atI z.cps.toList i = some c ∧ Q (.str ⟨#[c]⟩) H
theorem ix_list : IxR X (rIxL X.K) := by
  intro value slice pins s σ H x y v u Q I rx ry h hs
  obtain ⟨p, xs, i, z, rfl, rfl, hq, he, q⟩ := h
  cases rx
  obtain ⟨t, rfl⟩ := ry
  obtain ⟨its, r, pl, hz⟩ := I.list hq
  obtain ⟨j, h1, h2, h3, h4, h5⟩ := atI_get he
  obtain ⟨w, ew, rw'⟩ := r.get h2
  have hl := r.length
  have hn := line63
  have fin : EP X pins σ Q w s := ⟨z, H, I, rw', q⟩
  by_cases h0 : 0 ≤ i
  · have hj : i.toNat = j := by
      rw [seqIndex_of h0 h5] at h1
      exact Option.some.inj h1
    exact item_listR pl.isList h0 (by omega) (by rw [hj]; simpa using ew) fin hs
  · have hj : (i + (its.toArray.size : Int)).toNat = j := by
      rw [seqIndex_neg (by omega) h4] at h1
      rw [List.size_toArray, ← hl]
      exact Option.some.inj h1
    exact subscriptTail_builtinR (x := w) pl.isList.typeIs slot_list_getitem.lookup
      (wpAny_getItem_list_neg (Q := fun r s' => r = w ∧ EP X pins σ Q r s') pl.isList (by omega) (by rw [List.size_toArray] <;> omega) (by omega) (by rw [hj]; simpa using ew) ⟨rfl, fin⟩) hs
theorem ix_tup : IxR X (rIxT X.K) := by
  intro value slice pins s σ H x y v u Q I rx ry h hs
  obtain ⟨p, xs, i, z, rfl, rfl, hq, he, q⟩ := h
  cases rx
  obtain ⟨t, rfl⟩ := ry
  obtain ⟨its, r, pl, hz⟩ := I.tuple hq
  obtain ⟨j, h1, h2, h3, h4, h5⟩ := atI_get he
  obtain ⟨w, ew, rw'⟩ := r.get h2
  have hl := r.length
  have hn := line63
  have fin : EP X pins σ Q w s := ⟨z, H, I, rw', q⟩
  exact subscriptTail_builtinR (x := w) pl.typeIs slot_tuple_getitem.lookup
    (getItem_tuple (j := j) (Q := fun r s' => r = w ∧ EP X pins σ Q r s') pl (by omega) (by omega) (by rw [List.size_toArray, ← hl]; exact h1) (by simpa using ew) ⟨rfl, fin⟩) hs
/-- list, tuple or str -/
def rIx (K : PySem.W.Frag) : R2 := fun x y H Q => rIxL K x y H Q ∨ rIxT K x y H Q ∨ rIxS x y H Q

/-! ### xs[i] = v, any sign -/
def rSetL : V → V → V → Hp → (Hp → Prop) → Prop := fun o i v H Q => ∃ p xs k j, o = .ref p ∧ i = .int k ∧ H p = some (.lst xs) ∧ ixN xs.length k = some j ∧ Q (upd H p (.lst (xs.set j v)))

/-! ### slices -/
theorem slice_bounds (lo hi : Option Int) (n : Nat) : (sliceBounds lo hi none n).1 = ((HT.sIx n 0 lo : Nat) : Int) ∧ (sliceBounds lo hi none n).2.1 = ((HT.sIx n n hi : Nat) : Int) ∧ (sliceBounds lo hi none n).2.2 = 1 := by
  refine ⟨?_, ?_, rfl⟩
  · cases lo with
    | none => simp [sliceBounds, HT.sIx]
    | some i =>
      simp only [sliceBounds, HT.sIx, Option.getD_none, show (1 : Int) > 0 by decide, if_true]
      by_cases h : i < 0
      · simp only [h, if_true] <;> omega
      · simp only [h, if_false] <;> omega
  · cases hi with
    | none => simp [sliceBounds, HT.sIx]
    | some i =>
      simp only [sliceBounds, HT.sIx, Option.getD_none, show (1 : Int) > 0 by decide, if_true]
      by_cases h : i < 0
      · simp only [h, if_true] <;> omega
      · simp only [h, if_false] <;> omega
theorem slicePick_cut (its : List Value) (lo hi : Option Int) : slicePick its.toArray lo hi none = ((its.drop (HT.sIx its.length 0 lo)).take (HT.sIx its.length its.length hi - HT.sIx its.length 0 lo)).toArray := by
  obtain ⟨h1, h2, h3⟩ := slice_bounds lo hi its.toArray.size
  unfold slicePick
  rw [h1, h2, h3]
  simp only [sliceRange_one, pick_run, List.size_toArray] <;> rfl
/-- xs[lo:hi] of a list: a new list -/
def rSlL (K : PySem.W.Frag) : V → Option Int → Option Int → Hp → VK → Prop := fun x lo hi H Q => ∃ a xs, x = .ref a ∧ SqL K H a xs ∧ ∀ p, H p = none → Q (.ref p) (upd H p (.lst (cutV xs lo hi)))
theorem sl_list : SlR X (rSlL X.K) := by
  intro pins s σ H x v vl vu lo hi sl Q I rx hs pl pu h
  obtain ⟨a, xs, rfl, hx, q⟩ := h
  cases rx
  obtain ⟨its, r, ht, hz⟩ := I.list hx
  have hlen := r.length
  refine ⟨"list", _, slot_list_getitem.lookup, ht.isList.typeIs, ?_⟩
  refine wpAny_getItem_list_slice ht.isList hs pl pu .none (by simp) ?_ (by rw [List.size_toArray] <;> omega)
  rw [slicePick_cut, ← hlen]
  refine ⟨.ref s.heap.objs.size, _, I.laid (t' := s.toks) (o := .lst (cutV xs lo hi)) (fun b ob q => Heap.get?_push_of_some _ q) (Nat.le_refl _) ?_, rfl, q _ (I.hok.fresh (Nat.le_refl _))⟩
  exact ⟨Nat.le_trans (cutV_length xs lo hi) hz, _, 0, (r.drop (HT.sIx xs.length 0 lo)).take (HT.sIx xs.length xs.length hi - HT.sIx xs.length 0 lo), Heap.get?_push_size _ rfl⟩

/-! ### in, not in: flat items -/
def flatV : V → Bool
  | .non => true
  | .bl _ => true
  | .int _ => true
  | .str _ => true
  | _ => false
/-- == of flat values -/
def eqV : V → V → Bool
  | .non, .non => true
  | .bl a, .bl b => a == b
  | .bl a, .int b => (if a then 1 else 0) == b
  | .int a, .bl b => a == (if b then 1 else 0)
  | .int a, .int b => a == b
  | .str a, .str b => a == b
  | _, _ => false
theorem eqAt_V {A : Around} {s : Shared} {y x : V} {u v : Value} (ry : RelV y u) (rx : RelV x v) (fy : flatV y = true) (fx : flatV x = true) : SeqAt.EqAt A s u v (eqV y x) := by
  cases y with
  | non =>
    cases ry
    cases x with
    | non => cases rx; exact SeqAt.EqAt.same _
    | bl b => cases rx; exact SeqAt.EqAt.none_bool b
    | int b => obtain ⟨t, rfl⟩ := rx; exact SeqAt.EqAt.none_int b t
    | str b => obtain ⟨t, rfl⟩ := rx; exact SeqAt.EqAt.none_str b t
    | _ => exact absurd (show false = true from fx) Bool.false_ne_true
  | bl a =>
    cases ry
    cases x with
    | non => cases rx; exact SeqAt.EqAt.bool_none a
    | bl b => cases rx; exact SeqAt.EqAt.bool_bool a b
    | int b => obtain ⟨t, rfl⟩ := rx; exact SeqAt.EqAt.bool_int a b t
    | str b => obtain ⟨t, rfl⟩ := rx; exact SeqAt.EqAt.bool_str a b t
    | _ => exact absurd (show false = true from fx) Bool.false_ne_true
  | int a =>
    obtain ⟨t', rfl⟩ := ry
    cases x with
    | non => cases rx; exact SeqAt.EqAt.int_none a t'
    | bl b => cases rx; exact SeqAt.EqAt.int_bool a t' b
    | int b => obtain ⟨t, rfl⟩ := rx; exact SeqAt.EqAt.int_int a t' b t
    | str b => obtain ⟨t, rfl⟩ := rx; exact SeqAt.EqAt.int_str a t' b t
    | _ => exact absurd (show false = true from fx) Bool.false_ne_true
  | str a =>
    obtain ⟨t', rfl⟩ := ry
    cases x with
    | non => cases rx; exact SeqAt.EqAt.str_none a t'
    | bl b => cases rx; exact SeqAt.EqAt.str_bool a t' b
    | int b => obtain ⟨t, rfl⟩ := rx; exact SeqAt.EqAt.str_int a t' b t
    | str b => obtain ⟨t, rfl⟩ := rx; exact SeqAt.EqAt.str_str a t' b t
    | _ => exact absurd (show false = true from fx) Bool.false_ne_true
  | _ => exact absurd (show false = true from fy) Bool.false_ne_true
/-- the items' answers, read off the values (a value's own answer does not lean on its token) -/
def eqU (x : V) (u : Value) : Bool := match u with
  | .none => eqV .non x
  | .bool b => eqV (.bl b) x
  | .int i _ => eqV (.int i) x
  | .str z _ => eqV (.str z) x
  | _ => false
theorem eqU_of {x y : V} {u : Value} (r : RelV y u) (f : flatV y = true) : eqU x u = eqV y x := by
  cases y with
  | non => cases r; rfl
  | bl b => cases r; rfl
  | int i => obtain ⟨t, rfl⟩ := r; rfl
  | str z => obtain ⟨t, rfl⟩ := r; rfl
  | _ => exact absurd (show false = true from f) Bool.false_ne_true
theorem any_eqU {x : V} : ∀ {xs : List V} {us : List Value}, Vals xs us → xs.all flatV = true → us.any (eqU x) = xs.any fun y => eqV y x
  | _, _, .nil, _ => rfl
  | y :: xs, u :: us, .cons r t, f => by
    rw [List.all_cons, Bool.and_eq_true] at f
    rw [List.any_cons, List.any_cons, eqU_of r f.1, any_eqU t f.2]
theorem mem_eqAt {A : Around} {s : Shared} {x : V} {v : Value} (rx : RelV x v) (fx : flatV x = true) : ∀ {xs : List V} {us : List Value}, Vals xs us → xs.all flatV = true → ∀ u ∈ us, SeqAt.EqAt A s u v (eqU x u)
  | _, _, .nil, _ => fun u hu => by cases hu
  | y :: xs, u :: us, .cons r t, f => fun u' hu => by
    rw [List.all_cons, Bool.and_eq_true] at f
    rcases List.mem_cons.mp hu with rfl | hu
    · rw [eqU_of r f.1]; exact eqAt_V r rx f.1 fx
    · exact mem_eqAt rx fx t f.2 u' hu
def inV (x : V) (xs : List V) : Bool := xs.any fun y => eqV y x
/-- x in a list or tuple of flat items -/
def rIn (K : PySem.W.Frag) (neg : Bool) : R2 := fun x y H Q => ∃ p xs, y = .ref p ∧ (SqL K H p xs ∨ SqT K H p xs) ∧ flatV x = true ∧ xs.all flatV = true ∧ Q (.bl (if neg then !inV x xs else inV x xs)) H
theorem op_notIn_seq : OpR X (compareOp .NotIn) (rIn X.K true) := by
  intro pins s σ H x y v u Q I rx ry h
  obtain ⟨p, xs, rfl, hq, fx, fs, q⟩ := h
  cases ry
  rcases hq with hq | hq
  · obtain ⟨its, r, pl, hz⟩ := I.list hq
    refine SeqAt.notIn_listAt (eqU x) pl.isList (fun w hw => mem_eqAt rx fx r fs w (by simpa using hw)) ⟨.bl _, H, I, rfl, ?_⟩
    rw [show its.toArray.any (eqU x) = its.any (eqU x) by simp, any_eqU r fs]
    exact q
  · obtain ⟨its, r, pl, hz⟩ := I.tuple hq
    refine SeqAt.notIn_tupleAt (eqU x) pl (fun w hw => mem_eqAt rx fx r fs w (by simpa using hw)) ⟨.bl _, H, I, rfl, ?_⟩
    rw [show its.toArray.any (eqU x) = its.any (eqU x) by simp, any_eqU r fs]
    exact q

/-! ### len, list(x), tuple(x) of any list or tuple that is read -/
theorem call_len_seq : CallR X (.builtin "len") (fun xs H Q => ∃ p ys, xs = [.ref p] ∧ (SqL X.K H p ys ∨ SqT X.K H p ys) ∧ Q (.int ys.length) H) := by
  intro pins s σ H xs us Q I r h
  obtain ⟨p, ys, rfl, hq, q⟩ := h
  obtain ⟨u, rfl, rx⟩ := vals1 r
  cases rx
  have hn := line63
  rcases hq with hq | hq
  · obtain ⟨its, r', pl, hz⟩ := I.list hq
    have hlen := r'.length
    exact Calls.call_len_list pl.isList (by simp only [List.size_toArray] <;> omega) ⟨.int ys.length, H, I.tok _, ⟨s.toks + 1, by rw [List.size_toArray, hlen]⟩, q⟩
  · obtain ⟨its, r', pl, hz⟩ := I.tuple hq
    have hlen := r'.length
    exact len_tuple pl (by simp only [List.size_toArray] <;> omega) ⟨.int ys.length, H, I.tok _, ⟨s.toks + 1, by rw [List.size_toArray, hlen]⟩, q⟩
theorem call_list_of : CallR X (.type "list") (fun xs H Q => ∃ p ys, xs = [.ref p] ∧ (SqL X.K H p ys ∨ SqT X.K H p ys) ∧ ∀ l, H l = none → Q (.ref l) (upd H l (.lst ys))) := by
  intro pins s σ H xs us Q I r h
  obtain ⟨p, ys, rfl, hq, q⟩ := h
  obtain ⟨u, rfl, rx⟩ := vals1 r
  cases rx
  have fin : ∀ (its : List Value), Vals ys its → ys.length ≤ sizeLine → ∀ (h' : Heap) (c' : Nat), (∀ b o', s.heap.get? b = some o' → h'.get? b = some o') →
      h'.get? s.heap.objs.size = some { cls := .type "list", dict := none, data := .seq its.toArray c', slots := #[] } → EP X pins σ Q (.ref s.heap.objs.size) { s with heap := h' } := fun its r' hz h' c' kp e =>
    ⟨.ref s.heap.objs.size, _, I.laid (t' := s.toks) kp (Nat.le_refl _) (show ObjOk X.prog X.w _ h' _ (.lst ys) from ⟨hz, its, c', r', e⟩), rfl, q _ (I.hok.fresh (Nat.le_refl _))⟩
  rcases hq with hq | hq
  · obtain ⟨its, r', pl, hz⟩ := I.list hq
    have hlen := r'.length
    obtain ⟨o, ho, hc, n, hd⟩ := pl.isList
    exact call_list_seq p (.inl rfl) ho hc hd (fun h' c' kp e => fin its r' hz h' c' kp e) (by simp only [List.size_toArray] <;> omega)
  · obtain ⟨its, r', pl, hz⟩ := I.tuple hq
    have hlen := r'.length
    obtain ⟨o, ho, hc, n, hd⟩ := pl
    exact call_list_seq p (.inr rfl) ho hc hd (fun h' c' kp e => fin its r' hz h' c' kp e) (by simp only [List.size_toArray] <;> omega)

/-! ### the call of a builtin's method: o.m(..) -/
/-- the value is of that builtin type -/
def tyV (K : PySem.W.Frag) (T : String) (x : V) (H : Hp) : Prop := match x with
  | .str _ => T = "str"
  | .int _ => T = "int"
  | .ref p => (T = "list" ∧ ∃ xs, SqL K H p xs) ∨ (T = "tuple" ∧ ∃ o, K.lookup p = some o ∧ o.cls = .type "tuple" ∧ o.dict = none) ∨
      (T = "dict" ∧ ((∃ kvs, H p = some (.dK kvs)) ∨ ∃ kvs, H p = some (.dT kvs))) ∨ (T = "set" ∧ ∃ S n, H p = some (.set S n))
  | _ => False
theorem tyV_is {pins : List (Addr × Obj)} {σ : St} {H : Hp} {s : Shared} {T : String} {x : V} {v : Value} (I : Inv X pins σ H s) (r : RelV x v) (ty : tyV X.K T x H) :
    s.TypeIs v T ∧ ∀ a, v = .ref a → ∃ ob, s.heap.get? a = some ob ∧ ob.dict = none := by
  cases x with
  | str z =>
    obtain ⟨t, rfl⟩ := r
    cases (show T = "str" from ty)
    exact ⟨typeIs_str s z t, fun _ e => nomatch e⟩
  | int i =>
    obtain ⟨t, rfl⟩ := r
    cases (show T = "int" from ty)
    exact ⟨typeIs_int s i t, fun _ e => nomatch e⟩
  | ref p =>
    cases r
    rcases ty with ⟨rfl, xs, hq⟩ | ⟨rfl, o, hk, hc, hd⟩ | ⟨rfl, hk⟩ | ⟨rfl, S, n, hk⟩
    · obtain ⟨its, _, pl, _⟩ := I.list hq
      refine ⟨pl.isList.typeIs, fun a e => ?_⟩
      cases e
      obtain ⟨o, n, e, c, hd, _⟩ := pl
      exact ⟨o, e, hd⟩
    · refine ⟨⟨o, I.kIn p o hk, hc⟩, fun a e => ?_⟩
      cases e
      exact ⟨o, I.kIn _ o hk, hd⟩
    · have z : ∃ o, s.heap.get? p = some o ∧ o.ExactDict := by
        rcases hk with ⟨kvs, hk⟩ | ⟨kvs, hk⟩
        · obtain ⟨_, _, _, _, o, _, _, e, ex, _⟩ := I.hok p _ hk
          exact ⟨o, e, ex⟩
        · obtain ⟨_, _, _, _, o, _, _, e, ex, _⟩ := I.hok p _ hk
          exact ⟨o, e, ex⟩
      obtain ⟨o, e, ex⟩ := z
      refine ⟨⟨o, e, ex.1⟩, fun a e2 => ?_⟩
      cases e2
      exact ⟨o, e, ex.2.1⟩
    · obtain ⟨o, _, _, _, e, ex, _⟩ := I.hok p _ hk
      refine ⟨⟨o, e, ex.1⟩, fun a e2 => ?_⟩
      cases e2
      exact ⟨o, e, ex.2.1⟩
  | _ => exact False.elim ty
def tBM0 (K : PySem.W.Frag) (T : String) (r : V → List V → Hp → VK → Prop) (to : TE) : TE := fun σ H Q => to σ H fun x H1 => tyV K T x H1 ∧ r x [] H1 Q
def tBM (K : PySem.W.Frag) (T : String) (r : V → List V → Hp → VK → Prop) (to : TE) (t : TA) : TE := fun σ H Q => to σ H fun x H1 => tyV K T x H1 ∧ t σ H1 fun xs H2 => r x xs H2 Q
variable {o e : Expr} {es : List Expr} {to : TE} {t : TA} {name : Str} {apos cpos : Pos} {T id : String} {r : V → List V → Hp → VK → Prop}
theorem pe_bm0 (pa : PlainAttrs T) (slot : Slot T name id) (hty : typeOf (.builtin id) = pure (.type "method_descriptor")) (hm : MtR X id r) (ho : PE X o to)
    (hbase : attributeBase o name X.env (eval o X.env) = eval o X.env := by rfl) (hline : (apos.endLine == cpos.line) = true := by rfl) : PE X (.Call (.Attribute o name apos) [] [] cpos) (tBM0 X.K T r to) := by
  intro pins s σ H Q I h
  refine wpAny_Call_method0_late hbase hline (thn (ho pins s σ H _ I h) fun v s1 ⟨x, H1, I1, r1, ty, q1⟩ => ?_)
  obtain ⟨h1, h2⟩ := tyV_is I1 r1 ty
  exact ⟨T, id, pa, slot, hty, h1, h2, Calls.callWith_builtin rfl (PySem.evalArgs_none (hm pins s1 σ H1 x [] v [] Q I1 r1 .nil q1))⟩
theorem pe_bm (pa : PlainAttrs T) (slot : Slot T name id) (hty : typeOf (.builtin id) = pure (.type "method_descriptor")) (hm : MtR X id r) (ho : PE X o to) (ha : PA X (e :: es) t)
    (hbase : attributeBase o name X.env (eval o X.env) = eval o X.env := by rfl)
    (hfew : ((backTo cpos (starEach (e :: es) X.env)).all (fun x => !x.1) && (backToKw cpos (keywordEach [] X.env)).all (fun x => x.1.isSome)
      && decide ((e :: es).length + ([] : List Keyword).length + (if ([] : List Keyword).isEmpty then 0 else 1) < 30)) = true := by rfl)
    (hline : (apos.endLine == cpos.line) = true := by rfl) (hs : starEach (e :: es) X.env = (false, eval e X.env) :: starEach es X.env := by rfl) (hplain : (backTo cpos (starEach es X.env)).any (·.1) = false := by rfl) :
    PE X (.Call (.Attribute o name apos) (e :: es) [] cpos) (tBM X.K T r to t) := by
  intro pins s σ H Q I h
  refine wpAny_Call_method_late hbase hfew hline rfl (thn (ho pins s σ H _ I h) fun v s1 ⟨x, H1, I1, r1, ty, q1⟩ => ?_)
  obtain ⟨h1, h2⟩ := tyV_is I1 r1 ty
  refine ⟨T, id, pa, slot, hty, h1, h2, ?_⟩
  have hA := ha cpos pins s1 σ H1 _ I1 q1
  rw [hs] at hA ⊢
  refine Calls.callWith_builtin (by show (false || (backTo cpos (starEach es X.env)).any (·.1)) = false; rw [hplain] <;> rfl) (Calls.evalArgs_plain ?_)
  exact thn hA fun us s2 ⟨vs, H2, I2, r2, q2⟩ => hm pins s2 σ H2 x vs v us Q I2 r1 r2 q2
/- xs.append(e), list.index on a module's tuple .. are MtR facts of 06m -/
end
end L2

namespace L2
open PySem PySem.Spec PyProof.Rows

def MtM (X : Cx) (id : String) (r : V → List V → Hp → VK → Prop) : Prop :=
  ∀ (pins : List (Addr × Obj)) (s : Shared) (σ : St) (H : Hp) (x : V) (xs : List V) (v : Value) (us : List Value) (Q : VK), Inv X pins σ H s → RelV x v → Vals xs us → r x xs H Q →
    wpAny (model X.prog X.w) X.A (call (.builtin id) (v :: us)) (EP X pins σ Q) X.xe s

/-! ### lists of values -/
theorem Vals.one : ∀ {x : V} {us : List Value}, Vals [x] us → ∃ u, us = [u] ∧ RelV x u
  | _, _, .cons r .nil => ⟨_, rfl, r⟩
theorem Vals.two : ∀ {x y : V} {us : List Value}, Vals [x, y] us → ∃ u v, us = [u, v] ∧ RelV x u ∧ RelV y v
  | _, _, _, .cons r (.cons q .nil) => ⟨_, _, rfl, r, q⟩
theorem Vals.zero : ∀ {us : List Value}, Vals [] us → us = []
  | _, .nil => rfl

section
variable {X : Cx} {pins : List (Addr × Obj)} {σ : St} {H : Hp} {s : Shared} {l b : Addr} {xs ys zs : List V}

/-! ### the two steps: a tracked list is rewritten, a new list is laid -/
theorem Inv.lset {its its' : List Value} {n : Nat} {f : Array Value → Array Value} {t' : Nat} (I : Inv X pins σ H s) (hH : H l = some (.lst xs))
    (e : s.heap.get? l = some { cls := .type "list", data := .seq its.toArray n }) (hf : f its.toArray = its'.toArray) (hv : Vals ys its') (hz : ys.length ≤ sizeLine) :
    Inv X pins σ (upd H l (.lst ys)) { s with heap := s.heap.update l (Obj.mapSeq f), toks := t' } := by
  have q := PySem.IsL.update e f
  rw [hf] at q
  refine I.write (x := l) (e := l) (by rw [hH]; exact trivial) (.inl rfl) (fun b' u hb hu => (Heap.get?_update_other s.heap (Obj.mapSeq f) (Ne.symm hb)).trans hu) ⟨_, q⟩ ?_
  exact ⟨hz, its', _, hv, q⟩
theorem Inv.lnew {its : List Value} {t' : Nat} (I : Inv X pins σ H s) (hv : Vals ys its) (hz : ys.length ≤ sizeLine) :
    Inv X pins σ (upd H s.heap.objs.size (.lst ys)) { s with heap := s.heap.push { cls := .type "list", data := .seq its.toArray }, toks := t' } :=
  I.laid (fun _ _ q => Heap.get?_push_of_some _ q) (Nat.le_refl _) ⟨hz, its, 0, hv, Heap.get?_push_size _ rfl⟩
theorem Inv.fresh (I : Inv X pins σ H s) : H s.heap.objs.size = none := I.hok.fresh (Nat.le_refl _)
theorem Inv.lstM (I : Inv X pins σ H s) (hH : H l = some (.lst xs)) : xs.length ≤ sizeLine ∧ ∃ (its : List Value) (n : Nat), Vals xs its ∧ xs.length = its.length ∧ s.heap.get? l = some { cls := .type "list", data := .seq its.toArray n } := by
  obtain ⟨z, its, n, r, e⟩ := I.hok l _ hH
  exact ⟨z, its, n, r, r.length, e⟩

end

section
variable {X : Cx}

/-! ### methods -/
def rAppend : V → List V → Hp → VK → Prop := fun x vs H Q => ∃ l xs y, x = .ref l ∧ vs = [y] ∧ H l = some (.lst xs) ∧ xs.length < sizeLine ∧ Q .non (upd H l (.lst (xs ++ [y])))
theorem mt_append : MtM X "list.append" rAppend := by
  intro pins s σ H x vs v us Q I rx rv h
  obtain ⟨l, xs, y, rfl, rfl, hH, hz, q⟩ := h
  cases rx
  obtain ⟨u, rfl, ru⟩ := rv.one
  obtain ⟨z, its, n, r, hl, e⟩ := I.lstM hH
  refine call_meets F.slot_list_append ⟨_, e, rfl⟩ F.entry_list_append (F.args_list_append_2 _ _) (PySem.list_append l its.toArray n u (by rw [List.size_toArray]; omega)) ⟨e, ?_⟩
  refine ⟨.non, _, I.lset (its' := its ++ [u]) hH e (by simp) (r.append (.cons ru .nil)) ?_, rfl, q⟩
  rw [List.length_append, List.length_singleton]
  omega

def rExtend : V → List V → Hp → VK → Prop := fun x vs H Q => ∃ l b xs zs, x = .ref l ∧ vs = [.ref b] ∧ H l = some (.lst xs) ∧ H b = some (.lst zs) ∧ xs.length + zs.length ≤ sizeLine ∧ Q .non (upd H l (.lst (xs ++ zs)))

def rPop : V → List V → Hp → VK → Prop := fun x vs H Q => ∃ l xs y, x = .ref l ∧ vs = [] ∧ H l = some (.lst xs) ∧ xs[xs.length - 1]? = some y ∧ Q y (upd H l (.lst xs.dropLast))

def rPopAt : V → List V → Hp → VK → Prop := fun x vs H Q => ∃ l xs i k y, x = .ref l ∧ vs = [.int i] ∧ H l = some (.lst xs) ∧ -(2 ^ 63) ≤ i ∧ i < 2 ^ 63 ∧ seqIndex? i xs.length = some k ∧ xs[k]? = some y ∧ Q y (upd H l (.lst (xs.eraseIdx k)))

def rReverse : V → List V → Hp → VK → Prop := fun x vs H Q => ∃ l xs, x = .ref l ∧ vs = [] ∧ H l = some (.lst xs) ∧ Q .non (upd H l (.lst xs.reverse))

def rClear : V → List V → Hp → VK → Prop := fun x vs H Q => ∃ l xs, x = .ref l ∧ vs = [] ∧ H l = some (.lst xs) ∧ Q .non (upd H l (.lst []))
theorem mt_clear : MtM X "list.clear" rClear := by
  intro pins s σ H x vs v us Q I rx rv h
  obtain ⟨l, xs, rfl, rfl, hH, q⟩ := h
  cases rx
  have hus := rv.zero
  subst hus
  obtain ⟨z, its, n, r, hl, e⟩ := I.lstM hH
  refine call_meets F.slot_list_clear ⟨_, e, rfl⟩ F.entry_list_clear (F.args_list_clear_1 _) (AutoSeq1.list_clear_list_0 l its.toArray n (by rw [List.size_toArray]; omega)) ⟨e, ?_⟩
  exact ⟨.non, _, I.lset (its' := []) (ys := []) hH e rfl .nil (Nat.zero_le _), rfl, q⟩

/-! ### list + list, list += list, list * int -/
def rCat : R2 := fun x y H Q => ∃ l b xs zs, x = .ref l ∧ y = .ref b ∧ H l = some (.lst xs) ∧ H b = some (.lst zs) ∧ xs.length + zs.length ≤ sizeLine ∧ ∀ p, H p = none → Q (.ref p) (upd H p (.lst (xs ++ zs)))
theorem op_cat : OpR X (binaryOp .Add) rCat := by
  intro pins s σ H x y v u Q I rx ry h
  obtain ⟨l, b, xs, zs, rfl, rfl, hH, hB, hz, q⟩ := h
  cases rx
  cases ry
  obtain ⟨z, its, n, r, hl, e⟩ := I.lstM hH
  obtain ⟨z2, its2, n2, r2, hl2, e2⟩ := I.lstM hB
  refine PySem.P.add_list e e2 ?_ (by rw [List.size_toArray, List.size_toArray]; omega)
  have ea : its.toArray ++ its2.toArray = (its ++ its2).toArray := by simp
  rw [ea]
  exact ⟨.ref _, _, I.lnew (t' := s.toks) (r.append r2) (by rw [List.length_append]; omega), rfl, q _ I.fresh⟩
/-- a list times an int (a negative one is nothing) -/
def rRep : R2 := fun x y H Q => ∃ l k xs, x = .ref l ∧ y = .int k ∧ H l = some (.lst xs) ∧ -(2 ^ 63) ≤ k ∧ k < 2 ^ 63 ∧ xs.length * k.toNat ≤ sizeLine ∧
  ∀ p, H p = none → Q (.ref p) (upd H p (.lst (List.replicate k.toNat xs).flatten))

/-! ### del xs[i] -/
end

/-! ### xs[a:b] = ys -/
section
variable {prog : Program} {w : World} {A : Around} {E : Value → Shared → Prop} {s : Shared}
end

section
variable {X : Cx}
end
end L2

namespace L2
open PySem PySem.Spec PyProof.Rows

/-! ### lists of pairs as tables -/
section
variable {κ : Type} [DecidableEq κ]
def valV (kvs : List (κ × V)) (k : κ) : Option V := (kvs.find? fun kv => decide (kv.1 = k)).map (·.2)
/-- in its place, or at the end -/
def putK (kvs : List (κ × V)) (k : κ) (v : V) : List (κ × V) :=
  if (kvs.any fun kv => decide (kv.1 = k)) = true then kvs.map (fun kv => if kv.1 = k then (kv.1, v) else kv) else kvs ++ [(k, v)]
def dropK (kvs : List (κ × V)) (k : κ) : List (κ × V) := kvs.filter fun kv => decide (kv.1 ≠ k)

theorem valV_pos {p : κ × V} {r : List (κ × V)} {k : κ} (e : p.1 = k) : valV (p :: r) k = some p.2 := by simp [valV, List.find?_cons, e]
theorem valV_neg {p : κ × V} {r : List (κ × V)} {k : κ} (e : ¬ p.1 = k) : valV (p :: r) k = valV r k := by simp [valV, List.find?_cons, e]
theorem valV_any (k : κ) : ∀ kvs : List (κ × V), (kvs.any fun kv => decide (kv.1 = k)) = (valV kvs k).isSome
  | [] => rfl
  | p :: r => by
    rw [List.any_cons]
    by_cases e : p.1 = k
    · simp only [valV_pos e, decide_eq_true e, Bool.true_or, Option.isSome_some]
    · rw [valV_neg e, decide_eq_false e, Bool.false_or]; exact valV_any k r
theorem valV_map (k j : κ) (y : V) : ∀ kvs : List (κ × V), valV (kvs.map fun kv => if kv.1 = k then (kv.1, y) else kv) j = (valV kvs j).map fun x => if j = k then y else x
  | [] => rfl
  | p :: r => by
    have ih := valV_map k j y r
    rw [List.map_cons]
    by_cases h : p.1 = k
    · rw [if_pos h]
      by_cases e : p.1 = j
      · rw [valV_pos (p := (p.1, y)) e, valV_pos e, Option.map_some, if_pos (e.symm.trans h)]
      · rw [valV_neg (p := (p.1, y)) e, valV_neg e, ih]
    · rw [if_neg h]
      by_cases e : p.1 = j
      · rw [valV_pos (p := p) e, valV_pos e, Option.map_some, if_neg (fun z => h (e.trans z))]
      · rw [valV_neg (p := p) e, valV_neg e, ih]
theorem valV_snoc (k j : κ) (y : V) : ∀ kvs : List (κ × V), valV kvs k = none → valV (kvs ++ [(k, y)]) j = if j = k then some y else valV kvs j
  | [], _ => by
    by_cases e : k = j
    · rw [if_pos e.symm]; exact valV_pos (p := (k, y)) e
    · rw [if_neg (fun z => e z.symm)]; exact valV_neg (p := (k, y)) e
  | p :: r, hn => by
    rw [List.cons_append]
    have hk : ¬ p.1 = k := fun z => by rw [valV_pos z] at hn; cases hn
    rw [valV_neg hk] at hn
    have ih := valV_snoc k j y r hn
    by_cases e : p.1 = j
    · rw [valV_pos e, valV_pos e, if_neg (fun z => hk (e.trans z))]
    · rw [valV_neg e, valV_neg e, ih]
theorem valV_put (kvs : List (κ × V)) (k j : κ) (y : V) : valV (putK kvs k y) j = if j = k then some y else valV kvs j := by
  unfold putK
  by_cases a : (kvs.any fun kv => decide (kv.1 = k)) = true
  · rw [if_pos a, valV_map]
    rw [valV_any] at a
    by_cases e : j = k
    · obtain ⟨x, hx⟩ := Option.isSome_iff_exists.mp a
      rw [if_pos e, e, hx, Option.map_some, if_pos rfl]
    · rw [if_neg e]
      cases valV kvs j with
      | none => rfl
      | some x => rw [Option.map_some, if_neg e]
  · rw [if_neg a]
    refine valV_snoc k j y kvs ?_
    rw [valV_any] at a
    cases q : valV kvs k with
    | none => rfl
    | some x => rw [q] at a; exact (a rfl).elim
theorem length_putK (kvs : List (κ × V)) (k : κ) (v : V) : (putK kvs k v).length ≤ kvs.length + 1 := by
  unfold putK
  split
  · rw [List.length_map]; omega
  · rw [List.length_append, List.length_cons, List.length_nil]; omega
theorem putK_new {kvs : List (κ × V)} {k : κ} (v : V) (h : valV kvs k = none) : putK kvs k v = kvs ++ [(k, v)] := by
  unfold putK
  rw [valV_any, h]
  exact if_neg (by decide)

theorem RelO.isSome_eq {o : Option V} {u : Option Value} (r : RelO o u) : o.isSome = u.isSome := by
  cases o with
  | none => cases u with
    | none => rfl
    | some _ => exact (show False from r).elim
  | some _ => cases u with
    | none => exact (show False from r).elim
    | some _ => rfl

/-- raw tables of the same keys -/
theorem KV.val {kvs : List (κ × V)} {vs : List (κ × Value)} (r : KV kvs vs) (k : κ) : RelO (valV kvs k) (valueAt vs k) := by
  unfold KV at r
  induction r with
  | nil => exact True.intro
  | @cons p q ps qs h t ih =>
    obtain ⟨h1, h2⟩ := h
    by_cases e : p.1 = k
    · have e' : q.1 = k := h1.symm.trans e
      have b : valueAt (q :: qs) k = some q.2 := by simp [valueAt, List.find?_cons, e']
      rw [valV_pos e, b]; exact h2
    · have e' : ¬ q.1 = k := fun z => e (h1.trans z)
      have b : valueAt (q :: qs) k = valueAt qs k := by simp [valueAt, List.find?_cons, e']
      rw [valV_neg e, b]; exact ih
theorem KV.any {kvs : List (κ × V)} {vs : List (κ × Value)} (r : KV kvs vs) (k : κ) : (kvs.any fun kv => decide (kv.1 = k)) = vs.any fun kv => decide (kv.1 = k) := by
  unfold KV at r
  induction r with
  | nil => rfl
  | cons h t ih => rw [List.any_cons, List.any_cons, ih, h.1]
theorem KV.repl {kvs : List (κ × V)} {vs : List (κ × Value)} (r : KV kvs vs) (k : κ) {y : V} {u : Value} (ry : RelV y u) :
    KV (kvs.map fun kv => if kv.1 = k then (kv.1, y) else kv) (vs.map fun kv => if kv.1 = k then (kv.1, u) else kv) := by
  unfold KV at r ⊢
  induction r with
  | nil => exact .nil
  | @cons p q ps qs h t ih =>
    rw [List.map_cons, List.map_cons]
    refine .cons ?_ ih
    obtain ⟨h1, h2⟩ := h
    by_cases e : p.1 = k
    · rw [if_pos e, if_pos (h1.symm.trans e)]; exact ⟨h1, ry⟩
    · rw [if_neg e, if_neg (fun z => e (h1.trans z))]; exact ⟨h1, h2⟩
theorem KV.put {kvs : List (κ × V)} {vs : List (κ × Value)} (r : KV kvs vs) (k : κ) {y : V} {u : Value} (ry : RelV y u) : KV (putK kvs k y) (stored vs k u) := by
  unfold putK stored
  rw [r.any k]
  by_cases e : (vs.any fun kv => decide (kv.1 = k)) = true
  · rw [if_pos e, if_pos e]; exact r.repl k ry
  · rw [if_neg e, if_neg e]; exact Paired.snoc r ⟨rfl, ry⟩
theorem KV.length {kvs : List (κ × V)} {vs : List (κ × Value)} (r : KV kvs vs) : kvs.length = vs.length := Paired.length r
end


/-! ### a tracked dict, its keys ints and texts or tuples of these -/
theorem kV_is {P : Program} {w : World} {k : Key} {u : Value} (r : RelV (kV k) u) : (mixKind P w).is k u = true := by
  cases k with
  | inl i => obtain ⟨t, e⟩ := (show ∃ t, u = Value.int i t from r); subst e; exact mixKind_int P w i t
  | inr x => obtain ⟨t, e⟩ := (show ∃ t, u = Value.str x t from r); subst e; exact mixKind_str P w x t
theorem kV_inj {a b : Key} (e : kV a = kV b) : a = b := by
  cases a with
  | inl i => cases b with
    | inl j => have e' : V.int i = V.int j := e; injection e' with e'; rw [e']
    | inr y => exact nomatch (show V.int i = V.str y from e)
  | inr x => cases b with
    | inl j => exact nomatch (show V.str x = V.int j from e)
    | inr y => have e' : V.str x = V.str y := e; injection e' with e'; rw [e']
theorem items_are {P : Program} {w : World} : ∀ {ks : List Key} {us : List Value}, Vals (ks.map kV) us → ItemsAre (mixKind P w) ks us
  | [], _, r => by rw [List.map_nil] at r; cases r; exact .nil
  | k :: ks, _, r => by
    rw [List.map_cons] at r
    cases r with
    | cons h t => exact .cons (kV_is h) (items_are t)

/-- raw entries of a dict with tuple keys -/
abbrev KT (H : Hp) : List (List Key × V) → List (List Key × Addr × Value) → Prop := Paired fun p q => p.1 = q.1 ∧ H q.2.1 = some (.tup (p.1.map kV)) ∧ RelV p.2 q.2.2
theorem KT.val {H : Hp} {kvs : List (List Key × V)} {xs : List (List Key × Addr × Value)} (r : KT H kvs xs) (k : List Key) : RelO (valV kvs k) ((atKey xs k).map (·.2)) := by
  induction r with
  | nil => exact True.intro
  | @cons p q ps qs h t ih =>
    obtain ⟨h1, _, h2⟩ := h
    by_cases e : p.1 = k
    · have e' : q.1 = k := h1.symm.trans e
      have b : atKey (q :: qs) k = some q.2 := by simp [atKey, List.find?_cons, e']
      rw [valV_pos e, b]; exact h2
    · have e' : ¬ q.1 = k := fun z => e (h1.trans z)
      have b : atKey (q :: qs) k = atKey qs k := by simp [atKey, List.find?_cons, e']
      rw [valV_neg e, b]; exact ih
theorem KT.repl {H : Hp} {kvs : List (List Key × V)} {xs : List (List Key × Addr × Value)} (r : KT H kvs xs) (k : List Key) {y : V} {u : Value} (ry : RelV y u) :
    KT H (kvs.map fun kv => if kv.1 = k then (kv.1, y) else kv) (xs.map (putAt k u)) := by
  induction r with
  | nil => exact .nil
  | @cons p q ps qs h t ih =>
    rw [List.map_cons, List.map_cons]
    refine .cons ?_ ih
    obtain ⟨h1, h2, h3⟩ := h
    unfold putAt
    by_cases e : p.1 = k
    · rw [if_pos e, if_pos (h1.symm.trans e)]; exact ⟨h1, h2, ry⟩
    · rw [if_neg e, if_neg (fun z => e (h1.trans z))]; exact ⟨h1, h2, h3⟩
theorem KT.put {H : Hp} {kvs : List (List Key × V)} {xs : List (List Key × Addr × Value)} (r : KT H kvs xs) (k : List Key) {b : Addr} {y : V} {u : Value} (hb : H b = some (.tup (k.map kV))) (ry : RelV y u) :
    KT H (putK kvs k y) (storedH xs k b u) := by
  have e : (kvs.any fun kv => decide (kv.1 = k)) = (atKey xs k).isSome := by
    rw [valV_any, (r.val k).isSome_eq, Option.isSome_map]
  unfold putK storedH
  rw [e]
  by_cases q : (atKey xs k).isSome = true
  · rw [if_pos q, if_pos q]; exact r.repl k ry
  · rw [if_neg q, if_neg q]; exact Paired.snoc r ⟨rfl, hb, ry⟩
theorem KT.keeps {H H' : Hp} {kvs : List (List Key × V)} {xs : List (List Key × Addr × Value)} (r : KT H kvs xs) (ht : ∀ b ys, H b = some (.tup ys) → H' b = some (.tup ys)) : KT H' kvs xs :=
  Paired.mapP r fun _ _ z => ⟨z.1, ht _ _ z.2.1, z.2.2⟩

section
variable {P : Program} {w : World} {H : Hp} {h : Heap} {a : Addr}
theorem rd_of {u : HO} (ok : HOk P w H h) (e : Rd H a u) : ObjOk P w H h a u := e.ok ok
theorem dk_rd {kvs : List (Key × V)} (ok : HOk P w H h) (e : Rd H a (.dK kvs)) : kvs.length ≤ sizeLine ∧ (a == sysModules) = false ∧ ∃ vs, KV kvs vs ∧ h.DictOf (mixKind P w) a vs :=
  show ObjOk P w H h a (.dK kvs) from rd_of ok e
theorem dk_of {kvs : List (Key × V)} (ok : HOk P w H h) (e : H a = some (.dK kvs)) : kvs.length ≤ sizeLine ∧ (a == sysModules) = false ∧ ∃ vs, KV kvs vs ∧ h.DictOf (mixKind P w) a vs := dk_rd ok (.inl e)
/-- a tracked tuple of ints and texts is a key -/
theorem key_of {ks : List Key} (ok : HOk P w H h) (e : H a = some (.tup (ks.map kV))) : (tupleKind (mixKind P w)).is h ks a := by
  obtain ⟨_, its, r, o, h1, h2, n, h3⟩ := (show ObjOk P w H h a (.tup (ks.map kV)) from ok a _ e)
  exact ⟨o, its.toArray, n, h1, h2, h3, by simpa using items_are r⟩
theorem dt_rd {kvs : List (List Key × V)} (ok : HOk P w H h) (e : Rd H a (.dT kvs)) : kvs.length ≤ sizeLine ∧ (a == sysModules) = false ∧
    ∃ xs, KT H kvs xs ∧ h.DictOfH (tupleKind (mixKind P w)) a xs := by
  obtain ⟨z, y, xs, r, o, es, ep, h1, h2, h3, h4, h5⟩ := (show ObjOk P w H h a (.dT kvs) from rd_of ok e)
  refine ⟨z, y, xs, r, o, es, ep, h1, h2, h3, h4, fun x hx => ?_, h5⟩
  have all : ∀ {l : List (List Key × V)} {m : List (List Key × Addr × Value)}, KT H l m → ∀ x ∈ m, (tupleKind (mixKind P w)).is h x.1 x.2.1 := by
    intro l m q
    induction q with
    | nil => intro x hx; exact nomatch hx
    | @cons p q ps qs hq t ih =>
      intro x hx
      rcases List.mem_cons.mp hx with e | hx
      · subst e
        exact key_of ok (by rw [← hq.1]; exact hq.2.1)
      · exact ih x hx
  exact all r x hx
theorem dt_of {kvs : List (List Key × V)} (ok : HOk P w H h) (e : H a = some (.dT kvs)) : kvs.length ≤ sizeLine ∧ (a == sysModules) = false ∧
    ∃ xs, KT H kvs xs ∧ h.DictOfH (tupleKind (mixKind P w)) a xs := dt_rd ok (.inl e)
end

/-- what the dict at a holds at the key y -/
def DGet (H : Hp) (a : Addr) (y : V) (r : Option V) : Prop :=
  (∃ kvs k, Rd H a (.dK kvs) ∧ y = kV k ∧ r = valV kvs k) ∨ ∃ kvs k b, Rd H a (.dT kvs) ∧ y = .ref b ∧ H b = some (.tup (k.map kV)) ∧ r = valV kvs k
/-- the heap behind a[y] = v -/
def DPut (H : Hp) (a : Addr) (y v : V) (H' : Hp) : Prop :=
  (∃ kvs k, H a = some (.dK kvs) ∧ y = kV k ∧ kvs.length < sizeLine ∧ H' = upd H a (.dK (putK kvs k v))) ∨
  ∃ kvs k b, H a = some (.dT kvs) ∧ y = .ref b ∧ H b = some (.tup (k.map kV)) ∧ kvs.length < sizeLine ∧ H' = upd H a (.dT (putK kvs k v))
theorem DGet.k {H : Hp} {a : Addr} {kvs : List (Key × V)} {k : Key} (e : H a = some (.dK kvs)) : DGet H a (kV k) (valV kvs k) := .inl ⟨kvs, k, .inl e, rfl, rfl⟩
theorem DPut.k {H : Hp} {a : Addr} {kvs : List (Key × V)} {k : Key} {v : V} (e : H a = some (.dK kvs)) (hl : kvs.length < sizeLine) : DPut H a (kV k) v (upd H a (.dK (putK kvs k v))) := .inl ⟨kvs, k, e, rfl, hl, rfl⟩


section
variable {X : Cx} {pins : List (Addr × Obj)} {σ : St} {H : Hp} {s : Shared} {a : Addr} {y v : V} {u r : Value} {o : Option V} {A : Around} {E : Value → Shared → Prop}

theorem Inv.big (I : Inv X pins σ H s) : sysModules < s.heap.objs.size := by
  have h : mainGlobals < s.heap.objs.size := (I.mod.glob.keeps I.bk).lt
  exact Nat.lt_trans (by decide) h

/-- d[y], there -/
theorem d_getItem {Q : Value → Shared → Prop} (hu : A.units + 1 < cLine) (I : Inv X pins σ H s) (g : DGet H a y (some v)) (ry : RelV y u) (h : ∀ w' s', Inv X pins σ H s' → RelV v w' → Q w' s') :
    wpAny (model X.prog X.w) A (getItem (.ref a) u) Q E s := by
  rcases g with ⟨kvs, k, e, ey, l⟩ | ⟨kvs, k, b, e, ey, eb, l⟩
  · subst ey
    obtain ⟨z, hd, vs, rel, dd⟩ := dk_rd I.hok e
    obtain ⟨w', hw, rw'⟩ := RelO.some_of (v := v) (o := valueAt vs k) (by rw [l]; exact rel.val k)
    exact wpAny_getItem_of (kV_is ry) dd.mapOf hw (h w' _ (I.tok _) rw')
  · subst ey
    cases (show u = Value.ref b from ry)
    obtain ⟨z, hd, xs, rel, dd⟩ := dt_rd I.hok e
    obtain ⟨w', hw, rw'⟩ := RelO.some_of (v := v) (o := (atKey xs k).map (·.2)) (by rw [l]; exact rel.val k)
    obtain ⟨p, hp, hp2⟩ := Option.map_eq_some_iff.mp hw
    refine wpAny_getItem_heap (tupleKind_room_in1 hu) (key_of I.hok eb) dd hp ?_
    rw [hp2]
    exact h w' _ (I.tok _) rw'
theorem d_notIn {Q : Value → Shared → Prop} (hu : A.units + 1 < cLine) (I : Inv X pins σ H s) (g : DGet H a y o) (ry : RelV y u) (h : ∀ s', Inv X pins σ H s' → Q (.bool (!o.isSome)) s') :
    wpAny (model X.prog X.w) A (compareOp .NotIn u (.ref a)) Q E s := by
  rcases g with ⟨kvs, k, e, ey, l⟩ | ⟨kvs, k, b, e, ey, eb, l⟩
  · subst ey
    obtain ⟨z, hd, vs, rel, dd⟩ := dk_rd I.hok e
    refine wpAny_notIn_of (kV_is ry) hd dd.mapOf ?_
    rw [← (rel.val k).isSome_eq, ← l]
    exact h _ (I.tok _)
  · subst ey
    cases (show u = Value.ref b from ry)
    obtain ⟨z, hd, xs, rel, dd⟩ := dt_rd I.hok e
    refine wpAny_notIn_heap (tupleKind_room_in1 hu) (key_of I.hok eb) hd dd ?_
    have q := (rel.val k).isSome_eq
    rw [Option.isSome_map] at q
    rw [← q, ← l]
    exact h _ (I.tok _)
/-- a dict's object is replaced -/
theorem d_write {h' : Heap} {t' : Nat} {ob : HO} (I : Inv X pins σ H s) (mu : Mut (H a)) (hs : Heap.SameBut a s.heap h') (he : ∃ q, h'.get? a = some q) (new : ObjOk X.prog X.w (upd H a ob) h' a ob) :
    Inv X pins σ (upd H a ob) { s with heap := h', toks := t' } :=
  I.write (x := a) (e := a) mu (.inl rfl) (fun b q hb z => (hs.2 b hb).trans z) he new
theorem dk_new {P : Program} {w : World} {H' : Hp} {h' : Heap} {kvs : List (Key × V)} {vs : List (Key × Value)} (z : kvs.length ≤ sizeLine) (hd : (a == sysModules) = false) (rel : KV kvs vs) (dd : h'.DictOf (mixKind P w) a vs) :
    ObjOk P w H' h' a (.dK kvs) := ⟨z, hd, vs, rel, dd⟩
/-- d[y] = v -/
theorem d_setItem {H' : Hp} {Q : Unit → Shared → Prop} (hu : A.units + 1 < cLine) (I : Inv X pins σ H s) (g : DPut H a y v H') (ry : RelV y u) (rv : RelV v r) (h : ∀ s', Inv X pins σ H' s' → Q () s') :
    wpAny (model X.prog X.w) A (setItem (.ref a) u r) Q E s := by
  rcases g with ⟨kvs, k, e, ey, l, eH⟩ | ⟨kvs, k, b, e, ey, eb, l, eH⟩
  · subst ey eH
    obtain ⟨z, hd, vs, rel, dd⟩ := dk_of I.hok e
    have hz : vs.length ≤ sizeLine := by rw [← rel.length]; exact z
    have hl : (putK kvs k v).length ≤ sizeLine := by have := length_putK kvs k v; omega
    refine wpAny_setItem_pairs (hsz := hz) (kV_is ry) dd fun h' dd' hs => h _ ?_
    have he : ∃ q, h'.get? a = some q := let ⟨q, _, _, hq, _⟩ := dd'; ⟨q, hq⟩
    exact d_write I (by rw [e]; exact True.intro) hs he (dk_new hl hd (rel.put k rv) dd')
  · subst ey eH
    cases (show u = Value.ref b from ry)
    obtain ⟨z, hd, xs, rel, dd⟩ := dt_of I.hok e
    have hz : xs.length ≤ sizeLine := by rw [← Paired.length rel]; exact z
    have hl : (putK kvs k v).length ≤ sizeLine := by have := length_putK kvs k v; omega
    refine wpAny_setItem_heap (hsz := hz) (tupleKind_room_in1 hu) (key_of I.hok eb) dd fun h' dd' hs => h _ ?_
    obtain ⟨q, es, ep, hq, h2, h3, h4, _, h5⟩ := dd'
    refine d_write I (by rw [e]; exact True.intro) hs ⟨q, hq⟩ ⟨hl, hd, _, (rel.put k eb rv).keeps fun c ys ec => ?_, q, es, ep, hq, h2, h3, h4, h5⟩
    rw [upd_ne (ne_of ec e (fun z => nomatch z))]
    exact ec
end

section
variable {X : Cx} {pins : List (Addr × Obj)} {σ : St} {H : Hp} {s : Shared} {a : Addr} {kvs : List (Key × V)} {k : Key} {u : Value} {A : Around} {E : Value → Shared → Prop}
end


/-! ### readings and rules -/
/-- the element of a subscription, not a slice -/
def NoSl (i : Expr) : Prop := ∀ ov iv, subscripted i false ov iv = operate [ov, iv] (getItem ov iv)
theorem subD_of {prog : Program} {w : World} {A : Around} {E : Value → Shared → Prop} {s : Shared} {env : Env} {value slice : Expr} {pos : Pos} {T id : String} {Q : Value → Shared → Prop}
    (hl : typeLookup (.type T) "__getitem__" = pure (some (.builtin id))) (hs : NoSl slice)
    (h : wpAny (model prog w) A (eval value env) (fun o s₁ => wpAny (model prog w) A (eval slice env) (fun i s₂ => s₂.TypeIs o T ∧ wpAny (model prog w) A (getItem o i) Q E s₂) E s₁) E s) :
    wpAny (model prog w) A (eval (.Subscript value slice pos) env) Q E s := by
  refine Subscript_ (wpAny_mono h (fun o s₁ h₁ => wpAny_mono h₁ (fun i s₂ h₂ => ?_) fun _ _ x => x) fun _ _ x => x)
  obtain ⟨hT, h₂⟩ := h₂
  unfold subscriptTail
  refine wpAny_bind ?_
  rw [getitemInPython_of_ne hT.not_modules]
  refine wpAny_bind (wpAny_specialOf hT hl ?_)
  have fin : wpAny (model prog w) A (subscripted slice false o i) (fun r s₃ => wpAny (model prog w) A (letTemporaryGo value o r >>= fun _ => pure r) Q E s₃) E s₂ := by
    rw [hs o i]
    exact wpAny_operating (wpAny_mono h₂ (fun r s₃ h₃ => wpAny_bind (wpAny_letTemporaryGo (wpAny_pure h₃))) fun _ _ x => x)
  first
    | exact wpAny_pure (wpAny_bind fin)
    | exact wpAny_bind (wpAny_pure (wpAny_bind fin))
    | exact wpAny_bind fin

theorem dict_typeIs {X : Cx} {pins : List (Addr × Obj)} {σ : St} {H : Hp} {s : Shared} {a : Addr} {y : V} {o : Option V} (I : Inv X pins σ H s) (g : DGet H a y o) : s.TypeIs (.ref a) "dict" := by
  rcases g with ⟨kvs, k, e, _, _⟩ | ⟨kvs, k, b, e, _, _, _⟩
  · obtain ⟨_, _, vs, _, dd⟩ := dk_rd I.hok e
    exact dd.typeIs
  · obtain ⟨_, _, xs, _, dd⟩ := dt_rd I.hok e
    exact dd.typeIs

/-- d[y] -/
def tDGet (td ty : TE) : TE := fun σ H Q => td σ H fun x H1 => ty σ H1 fun y H2 => ∃ a v, x = .ref a ∧ DGet H2 a y (some v) ∧ Q v H2
/-- y in d, y not in d -/
def tDIn (ty td : TE) : TE := fun σ H Q => ty σ H fun y H1 => td σ H1 fun x H2 => ∃ a o, x = .ref a ∧ DGet H2 a y o ∧ Q (.bl o.isSome) H2
def tDNotIn (ty td : TE) : TE := fun σ H Q => ty σ H fun y H1 => td σ H1 fun x H2 => ∃ a o, x = .ref a ∧ DGet H2 a y o ∧ Q (.bl (!o.isSome)) H2
/-- d[y] = v -/
def sDPut (td ty tv : TE) : TS := fun D σ H => tv σ H fun v H1 => td σ H1 fun x H2 => ty σ H2 fun y H3 => ∃ a H4, x = .ref a ∧ DPut H3 a y v H4 ∧ D.nx σ H4
/-- d[y] op= v -/
def sDAug (td ty tv : TE) (rd : V → V → Hp → VK → Prop) : TS := fun D σ H => td σ H fun x H1 => ty σ H1 fun y H2 => ∃ a v, x = .ref a ∧ DGet H2 a y (some v) ∧
  tv σ H2 fun y2 H3 => rd v y2 H3 fun z H4 => ∃ H5, DPut H4 a y z H5 ∧ D.nx σ H5
/-- del d[y] -/
def sDDel (td ty : TE) : TS := fun D σ H => td σ H fun x H1 => ty σ H1 fun y H2 => ∃ a kvs k, x = .ref a ∧ H2 a = some (.dK kvs) ∧ y = kV k ∧ (valV kvs k).isSome = true ∧ D.nx σ (upd H2 a (.dK (dropK kvs k)))

section
variable {X : Cx} {o i e value : Expr} {pos pos' tpos : Pos} {td ty tv : TE}
theorem pe_dget (hu : X.A.units + 1 < cLine) (ho : PE X o td) (hi : PE X i ty) (hs : NoSl i) : PE X (.Subscript o i pos) (tDGet td ty) := by
  intro pins s σ H Q I h
  refine subD_of PySem.F.slot_dict_getitem.lookup hs (thn (ho pins s σ H _ I h) fun u s1 ⟨x, H1, I1, rx, q1⟩ => thn (hi pins s1 σ H1 _ I1 q1) fun iv s2 ⟨y, H2, I2, ry, a, v, ex, g, q2⟩ => ?_)
  subst ex
  obtain rfl : u = Value.ref a := rx
  exact ⟨dict_typeIs I2 g, d_getItem hu I2 g ry fun w' s3 I3 rw' => ⟨v, H2, I3, rw', q2⟩⟩
theorem pc_dnotin (hu : X.A.units + 1 < cLine) (hi : PE X i ty) (ho : PE X o td) : PC X .NotIn i o (tDNotIn ty td) := by
  intro pins s σ H Q I h
  refine thn (hi pins s σ H _ I h) fun iv s1 ⟨y, H1, I1, ry, q1⟩ => thn (ho pins s1 σ H1 _ I1 q1) fun u s2 ⟨x, H2, I2, rx, a, ov, ex, g, q2⟩ => ?_
  subst ex
  obtain rfl : u = Value.ref a := rx
  exact d_notIn hu I2 g ry fun s3 I3 => ⟨.bl (!ov.isSome), H2, I3, rfl, q2⟩
theorem ps_dput (hu : X.A.units + 1 < cLine) (ho : PE X o td) (hi : PE X i ty) (hv : PE X value tv) (hs : swapsWith value (some (.Subscript o i pos')) pos.line X.env = pure false) :
    PS X (.Assign [.Subscript o i pos'] value pos) (sDPut td ty tv) := by
  intro pins s σ H D I h
  refine wpAny_Assign_Subscript (thn (hv pins s σ H _ I h) fun r s1 ⟨v, H1, I1, rv, q1⟩ => thn (ho pins s1 σ H1 _ I1 q1) fun u s2 ⟨x, H2, I2, rx, q2⟩ => thn (hi pins s2 σ H2 _ I2 q2) fun iv s3 ⟨y, H3, I3, ry, a, H4, ex, g, q3⟩ => ?_) hs
  subst ex
  obtain rfl : u = Value.ref a := rx
  exact d_setItem hu I3 g ry rv fun s4 I4 => ⟨σ, H4, I4, q3⟩
end


/-! ### displays -/
theorem dk_empty {P : Program} {w : World} {H : Hp} (h : Heap) (hb : sysModules < h.objs.size) : ObjOk P w H (h.push { cls := .type "dict", data := .dict #[] }) h.objs.size (.dK []) :=
  ⟨Nat.zero_le _, beq_eq_false_iff_ne.mpr (Ne.symm (Nat.ne_of_lt hb)), [], .nil, Heap.DictOf.new h⟩
/-- {}, to be a dict of the kind that is wanted -/
def tDNewK : TE := fun _ H Q => ∀ p, H p = none → Q (.ref p) (upd H p (.dK []))
def tDNewT : TE := fun _ H Q => ∀ p, H p = none → Q (.ref p) (upd H p (.dT []))
section
variable {X : Cx} {pos : Pos}
theorem pe_dnewK : PE X (.Dict [] [] pos) tDNewK := fun pins s σ H Q I h =>
  wpAny_Dict_empty ⟨.ref s.heap.objs.size, _, I.laid (a := s.heap.objs.size) (o := .dK []) (t' := s.toks) (fun _ _ q => Heap.get?_push_of_some _ q) (Nat.le_refl _) (dk_empty s.heap I.big), rfl, h _ (I.hok.fresh (Nat.le_refl _))⟩
end

/-- the pairs of a display, from the left -/
def tPairs : List (TE × TE) → St → Hp → (List (V × V) → Hp → Prop) → Prop
  | [], _, H, Q => Q [] H
  | (tk, tv) :: r, σ, H, Q => tk σ H fun x H1 => tv σ H1 fun y H2 => tPairs r σ H2 fun ps H3 => Q ((x, y) :: ps) H3
abbrev VV : List (V × V) → List (Value × Value) → Prop := Paired fun p q => RelV p.1 q.1 ∧ RelV p.2 q.2
def PPs (X : Cx) (pos : Pos) (keys : List (Option Expr)) (values : List Expr) (trs : List (TE × TE)) : Prop :=
  ∀ (pins : List (Addr × Obj)) (s : Shared) (σ : St) (H : Hp) (Q : List (V × V) → Hp → Prop), Inv X pins σ H s → tPairs trs σ H Q →
    wpAny (model X.prog X.w) X.A (evalPairs (pairTrees keys values X.env pos)) (fun vs s' => ∃ ps H', Inv X pins σ H' s' ∧ VV ps vs ∧ Q ps H') X.xe s

def mergeK (kvs more : List (Key × V)) : List (Key × V) := more.foldl (fun acc kv => putK acc kv.1 kv.2) kvs
/-- {k: v, ..} with keys ints and texts; the new dict stands empty while the pairs are made -/
def tDisp (trs : List (TE × TE)) : TE := fun σ H Q => ∀ p, H p = none → tPairs trs σ (upd H p (.dK [])) fun ps H2 => H2 p = some (.dK []) ∧ ∃ kvs : List (Key × V), ps = kvs.map (fun kv => (kV kv.1, kv.2)) ∧ kvs.length ≤ 15 ∧ Q (.ref p) (upd H2 p (.dK (mergeK [] kvs)))


/-! ### methods -/
/-- a method call o.m(e) of a built-in, with one argument: what must be seen of the text -/
structure M1 (X : Cx) (o : Expr) (m : Str) (apos : Pos) (e : Expr) (cpos : Pos) : Prop where
  base : attributeBase o m X.env (eval o X.env) = eval o X.env
  few : ((backTo cpos (starEach [e] X.env)).all (fun x => !x.1) && (backToKw cpos (keywordEach [] X.env)).all (fun x => x.1.isSome)
    && decide (([e] : List Expr).length + ([] : List Keyword).length + (if ([] : List Keyword).isEmpty then 0 else 1) < 30)) = true
  line : (apos.endLine == cpos.line) = true
  trees : backTo cpos (starEach [e] X.env) = [(false, eval e X.env)]
structure M2 (X : Cx) (o : Expr) (m : Str) (apos : Pos) (e f : Expr) (cpos : Pos) : Prop where
  base : attributeBase o m X.env (eval o X.env) = eval o X.env
  few : ((backTo cpos (starEach [e, f] X.env)).all (fun x => !x.1) && (backToKw cpos (keywordEach [] X.env)).all (fun x => x.1.isSome)
    && decide (([e, f] : List Expr).length + ([] : List Keyword).length + (if ([] : List Keyword).isEmpty then 0 else 1) < 30)) = true
  line : (apos.endLine == cpos.line) = true
  trees : backTo cpos (starEach [e, f] X.env) = [(false, eval e X.env), (false, eval f X.env)]

/-- a is a dict, whatever its keys -/
def IsD (H : Hp) (a : Addr) : Prop := (∃ kvs, Rd H a (.dK kvs)) ∨ ∃ kvs, Rd H a (.dT kvs)

section
variable {X : Cx} {pins : List (Addr × Obj)} {σ : St} {H : Hp} {s : Shared} {a : Addr} {y d : V} {u r : Value} {o : Option V} {A : Around} {E : Value → Shared → Prop}
end

def tDGet1 (td ty : TE) : TE := fun σ H Q => td σ H fun x H1 => ∃ a, x = .ref a ∧ IsD H1 a ∧ ty σ H1 fun y H2 => ∃ o, DGet H2 a y o ∧ Q (o.getD .non) H2
def tDGet2 (td ty tx : TE) : TE := fun σ H Q => td σ H fun x H1 => ∃ a, x = .ref a ∧ IsD H1 a ∧ ty σ H1 fun y H2 => tx σ H2 fun z H3 => ∃ o, DGet H3 a y o ∧ Q (o.getD z) H3
/-- d.pop(k): there; d.pop(k, x): there or not -/
def tDPop1 (td ty : TE) : TE := fun σ H Q => td σ H fun x H1 => ∃ a, x = .ref a ∧ IsD H1 a ∧ ty σ H1 fun y H2 => ∃ kvs k v, H2 a = some (.dK kvs) ∧ y = kV k ∧ valV kvs k = some v ∧ Q v (upd H2 a (.dK (dropK kvs k)))
def tDPop2 (td ty tx : TE) : TE := fun σ H Q => td σ H fun x H1 => ∃ a, x = .ref a ∧ IsD H1 a ∧ ty σ H1 fun y H2 => tx σ H2 fun z H3 => ∃ kvs k, H3 a = some (.dK kvs) ∧ y = kV k ∧
  (∀ v, valV kvs k = some v → Q v (upd H3 a (.dK (dropK kvs k)))) ∧ (valV kvs k = none → Q z H3)
section
variable {X : Cx} {o e f : Expr} {apos cpos : Pos} {td ty tx : TE}
end

/-! ### dict(d): a copy -/
section
variable {X : Cx} {pins : List (Addr × Obj)} {σ : St} {H : Hp} {s : Shared} {a : Addr} {kvs : List (Key × V)} {A : Around} {E : Value → Shared → Prop}
end


section
variable {X : Cx} {pins : List (Addr × Obj)} {σ : St} {H : Hp} {s : Shared} {a : Addr} {y : V} {u : Value} {A : Around} {E : Value → Shared → Prop}
end
end L2

namespace Att
open PySem PySem.W PySem.Calls PyProof.Rows

/-! ### the script -/
theorem ints_of_wellAll {P : Params} {h : Heap} : ∀ (ns : List Int) (vs : List Value), WellAll P h vs (ns.map WData.int) → IntsAre vs ns := by
  intro ns
  induction ns with
  | nil =>
    intro vs w
    rw [List.map_nil] at w
    cases w
    exact .nil
  | cons n ns ih =>
    intro vs w
    rw [List.map_cons] at w
    cases w with
    | cons a b =>
      cases a
      exact .cons _ _ (ih _ b)

theorem script_of {l : OpenLaw} {n : Nat} (hn : l.most = some n) {P : Params} {h : Heap} {args : List WData} {vals : List Value}
    (hpre : l.row.toRowW.claim.pre args = true) (hwl : WellAll P h vals args) :
    ∃ a vs ns, vals = [Value.ref a] ∧ args = [WData.list (ns.map WData.int)] ∧ h.get? a = some { cls := .type "list", data := .seq vs.toArray } ∧ IntsAre vs ns ∧ ns.length ≤ n := by
  have hsh : WShape.hasAll [] args [.list .int] = true := (pre_splitW hpre).1
  have hc : l.pre.holds [] { args := args } = true := (pre_splitW hpre).2
  obtain ⟨d, r, rfl, h1, h2⟩ := hasAllW_cons hsh
  obtain rfl := hasAllW_nil h2
  obtain ⟨xs, rfl, h3⟩ := hasW_list h1
  obtain ⟨ns, rfl⟩ := items_int h3
  have hlen : ns.length ≤ n := by
    unfold OpenLaw.pre at hc
    have h4 : (WTm.not (.lt (.lit (.int (n : Int))) (.len (.arg 0)))).holds [] { args := [.list (ns.map .int)] } = true := by
      have h4 := (holds_andW hc).1
      rw [hn] at h4
      exact h4
    have h5 := condW_of h4 (w_not (w_lt w_lit (w_len_list (w_arg rfl))))
    rw [List.length_map] at h5
    refine Nat.le_of_not_lt fun q => ?_
    have q' : (n : Int) < ((ns.length : Nat) : Int) := by omega
    first
      | (rw [decide_eq_true q'] at h5; exact absurd h5 (by decide))
      | (simp at h5; omega)
  cases hwl with
  | cons w1 w2 =>
    cases w2
    cases w1 with
    | list ho hall => exact ⟨_, _, ns, rfl, rfl, ho, ints_of_wellAll ns _ hall, hlen⟩

theorem post_true (l : OpenLaw) (args : List WData) : l.row.toRowW.claim.post args (.bool true) args = true :=
  postW_of (r := l.row.toRowW) (X := (true == true))
    (show WShape.has [] (.bool true) .bool = true by first | rfl | decide | simp [WShape.has, WShape.arms, WShape.armsAll])
    (show (WTm.eq .res (.lit (.bool true))).value [] { args := args, res := some (.bool true), after := args } = some (.bool (true == true)) from w_eq_bool (w_res rfl) w_lit) rfl

/-! ### the attachment: holds_open's last premise (the goal 'hc' behind k_head) from a wpAny of the law's body -/

/-- the same from a codeAny of the CALL (for a layer whose function contracts speak of calls) -/
theorem attach_call {l : OpenLaw} {n : Nat} {q : Program} {loose : List Str} {XP : (Str → Option Value) → Heap → Prop} {YP : World → Heap → Prop} {d : DefRec}
    (hn : l.most = some n) (hdf : d.params.defaults = [])
    (call : ∀ (w : World) (s₀ s₁ : Shared) (mg mb : Str → Option Value) (fa : Addr) (o : Obj) (pm cd doc : Value) (a : Addr) (vs : List Value) (ns : List Int),
      Ground q loose [] XP w s₀ mg mb s₁.heap → YP w s₁.heap →
      s₁.heap.get? fa = some o → o.data = .func (docDef d.name d.params d.body d.scope pm cd doc) → s₁.heap.CodeRec cd d.name → mg d.name = some (.ref fa) →
      s₁.heap.get? a = some { cls := .type "list", data := .seq vs.toArray } → IntsAre vs ns → ns.length ≤ n → s₁.gens = #[] →
      codeAny (model l.prog w) callerA (.call (.ref fa) ⟨[.ref a], []⟩) (fun r s' => r = .ok (.ret (.bool true)) ∧ OldK s₁.heap s'.heap ∧ s'.os = s₁.os ∧ AllBare s'.gens) s₁) :
    WalkO q loose XP YP l.row.toRowW d [] (fun f vs => PySem.call f vs) := by
  intro w s₀ s₁ mg mb G Y fa o pm cd doc dV kV ho hd hcd hD hmg hg args vals as hpre hlay hrd hwl hlo
  obtain rfl : dV = .none := Dflts.none hD hdf
  obtain rfl : kV = .none := Dflts.noKw hD
  obtain ⟨a, vs, ns, rfl, rfl, hobj, hints, hlen⟩ := script_of hn hpre hwl
  refine enter_call (codeAny_mono (call w s₀ s₁ mg mb fa o pm cd doc a vs ns G Y ho (fd_plain hd) hcd hmg hobj hints hlen hg) fun r s' hq => ?_)
  obtain ⟨rfl, h2, h3, h4⟩ := hq
  exact ⟨.inl ⟨.bool true, .bool true, [], rfl, fun _ => rfl, .bool true, post_true l _, fun _ => ⟨List.Pairwise.nil, fun _ hm => (nomatch hm)⟩⟩, h2, h3, h4⟩


/-! ### rules over ANY heap (no ledger) from facts about the written part K: the library's own take a ledger (News) for what they write -/
section
variable {prog : Program} {w : World} {A : Around} {E : Value → Shared → Prop} {s : Shared} {K : Frag}





/-! the whole heap as the ledger: makes every rule that writes through a ledger a rule over any heap -/
def noObjs (h : Heap) : Heap := { h with objs := #[] }
def ledger (h : Heap) (L d : Addr) : List (Addr × Obj) := (List.range h.objs.size).filterMap fun a => if a = L ∨ a = d then none else (h.get? a).map fun o => (a, o)

end
end Att

namespace L2
open PySem PySem.Spec PyProof.Rows

theorem vals_ints : ∀ {vs : List Value} {ns : List Int}, IntsAre vs ns → Vals (ns.map V.int) vs
  | _, _, .nil => .nil
  | _, _, .cons n t h => .cons ⟨t, rfl⟩ (vals_ints h)

/-- nothing is tracked but the script, known to the object (or it is an object of the module) -/
def Only (H : Hp) : Prop := ∀ b, H b = none ∨ ∃ o xs, H b = some (.frz o (.lst xs))

/-- THE HEAD: the law's promise, at the heap behind the top. F, the promise of the law's def, may use that base is part of the heap (so K.In base, base.Ns mainGlobals mg stand in Mod) -/
theorem law_call {P : Program} {w : World} {K : PySem.W.Frag} {mg mb : Str → Option Value} {CX : CXT} {k : Nat} {fa a : Addr} {fd : FuncData} {x : Str} {sp : Sp} {s₁ : Shared} {vs : List Value} {ns : List Int}
    (KX : K.In s₁.heap) (hns : s₁.heap.Ns mainGlobals mg) (hb : s₁.heap.Ns builtinsNs mb) (hbb : ∀ x : Str, x ≠ "__name__" → mb x = bootBuiltins x) (hlim : s₁.heap.NoLimit) (hg : s₁.gens = #[])
    (ha : s₁.heap.get? a = some { cls := .type "list", data := .seq vs.toArray }) (hi : IntsAre vs ns) (hl : ns.length ≤ sizeLine) (hr : Room k callerA)
    (F : ∀ base : Heap, K.In base → base.Ns mainGlobals mg → FnOk P w K mg base CX k fa fd [x] sp) (hbind : ∀ (s : Shared) (u : Value), BindsTo s fd ⟨[u], []⟩ [(x, u)])
    (hsp : ∀ H : Hp, Only H → SqL K H a (ns.map V.int) → sp [.ref a] H (fun v _ => v = .bl true) fun _ _ _ => False)
    (hCX : ∀ H e s', CX [] H s₁ (fun _ _ _ => False) e s' → False) :
    codeAny (model P w) callerA (.call (.ref fa) ⟨[.ref a], []⟩) (fun r s' => r = .ok (.ret (.bool true)) ∧ OldK s₁.heap s'.heap ∧ s'.os = s₁.os ∧ AllBare s'.gens) s₁ := by
  have rv := vals_ints hi
  have lenV := hi.length
  -- from an abstract heap in which nothing but the script may be tracked
  have core : ∀ H : Hp, Only H → SqL K H a (ns.map V.int) → HOk P w H s₁.heap → (∀ b, H b ≠ none → b = a) → (H a ≠ none → K.lookup a = none) →
      codeAny (model P w) callerA (.call (.ref fa) ⟨[.ref a], []⟩) (fun r s' => r = .ok (.ret (.bool true)) ∧ OldK s₁.heap s'.heap ∧ s'.os = s₁.os ∧ AllBare s'.gens) s₁ := by
    intro H hO hS hok hA hK
    have base_of : ∀ {b : Addr} {o : Obj}, s₁.heap.get? b = some o → H b = none → (hidT s₁.heap H).get? b = some o := fun e n => hidT_get e n
    have noA : ∀ {b : Addr} {o : Obj} {es : Array DictEntry} {ep : Nat}, s₁.heap.get? b = some o → o.data = .dict es ep → H b = none := fun {b o es ep} e d => by
      cases q : H b with
      | none => rfl
      | some u =>
        have e' : b = a := hA b (by rw [q]; simp)
        subst e'
        rw [ha] at e; cases e
        have d' : Data.seq vs.toArray _ = Data.dict es ep := d
        cases d'
    have nsK : ∀ {b : Addr} {m : Str → Option Value}, s₁.heap.Ns b m → (hidT s₁.heap H).Ns b m := fun {b m} ⟨o, es, ep, e, d, r⟩ => ⟨o, es, ep, base_of e (noA e d), d, r⟩
    have hKb : K.In (hidT s₁.heap H) := fun b o e => base_of (KX b o e) (by
      cases q : H b with
      | none => rfl
      | some u =>
        have e' : b = a := hA b (by rw [q]; simp)
        subst e'
        rw [hK (by rw [q]; simp)] at e; cases e)
    have hM : Mod K mg (hidT s₁.heap H) := ⟨hKb, nsK hns, ⟨mb, nsK hb, hbb⟩, let ⟨mc, h1, h2⟩ := hlim; ⟨mc, nsK h1, h2⟩⟩
    have e0 : Env0 P w K mg (hidT s₁.heap H) callerA [] s₁ H := ⟨rfl, hM, fun b o e => of_hidT e, Nat.le_of_eq (hidT_size _ _), trivial, fun b hb => absurd (show b ∈ ([] : List Addr) from hb) (by simp), hok, .of_eq hg⟩
    refine codeAny_mono ((F _ hKb (nsK hns)).run callerA [] s₁ H ⟨[.ref a], []⟩ [.ref a] [.ref a] _ _ hr e0 (hbind s₁ (.ref a)) (.cons rfl .nil) (hsp H hO hS)) fun r s' h => ?_
    cases r with
    | error e => exact (hCX H e s' h).elim
    | ok fl =>
      cases fl with
      | next => exact False.elim h
      | brk => exact False.elim h
      | cont => exact False.elim h
      | ret u =>
        obtain ⟨v, H', os, bare, un, hok', r', q⟩ := h
        have q' : v = .bl true := q
        subst q'
        obtain rfl : u = Value.bool true := r'
        refine ⟨rfl, OldK.of_keep fun b o e => ?_, os, bare⟩
        cases q : H b with
        | none => exact un.keep b o e q (by intro z; exact absurd (show b ∈ ([] : List Addr) from z) (by simp)) (by simp)
        | some u =>
          rcases hO b with z | ⟨ob, xs, z⟩
          · rw [q] at z; cases z
          · have z2 := un.frzs b ob _ z
            obtain ⟨e1, _⟩ := hok b _ z
            obtain ⟨e2, _⟩ := hok' b _ z2
            rw [e] at e1; cases e1
            exact e2
  cases hk : K.lookup a with
  | some o =>
    -- the script is one of the module's own objects
    have e := KX a o hk
    rw [ha] at e
    cases e
    refine core (fun _ => none) (fun _ => .inl rfl) (.inr ⟨_, vs.toArray, _, hk, rfl, rfl, rfl, by rw [List.size_toArray, lenV]; exact hl, by simpa using rv⟩) (fun b u z => by have z' : (none : Option HO) = some u := z; cases z') (fun b z => absurd rfl z) fun z => absurd rfl z
  | none =>
    refine core (fun b => if b = a then some (.frz { cls := .type "list", data := .seq vs.toArray } (.lst (ns.map V.int))) else none) (fun b => ?_) (.inl (.inr ⟨{ cls := .type "list", data := .seq vs.toArray }, if_pos rfl⟩)) (fun b u z => ?_) (fun b z => ?_) fun _ => hk
    · by_cases hb : b = a
      · exact .inr ⟨_, _, if_pos hb⟩
      · exact .inl (if_neg hb)
    · by_cases hb : b = a
      · have z' := (if_pos hb).symm.trans z
        cases z'
        subst hb
        exact ⟨ha, by rw [List.length_map]; exact hl, vs, _, rv, ha⟩
      · have z' := (if_neg hb).symm.trans z
        cases z'
    · by_cases hb : b = a
      · exact hb
      · exact absurd (if_neg hb) z
end L2

namespace L2
open PySem PySem.Spec PyProof.Rows

abbrev KOf {K : PySem.W.Frag} {h : Heap} (_ : K.In h) : PySem.W.Frag := K

/-- the goal that k_head leaves (case hc), from the law's promise. F gives the function object fd (K's own) once, then the promise over every base -/
theorem walk_of {l : PySem.W.OpenLaw} {n k : Nat} {q : Program} {loose : List Str} {XP : (Str → Option Value) → Heap → Prop} {YP : World → Heap → Prop} {d : DefRec} {K : Params → PySem.W.Frag} {CX : World → CXT} {sp : World → Sp} {x : Str}
    (hn : l.most = some n) (hn2 : n ≤ sizeLine) (hdf : d.params.defaults = []) (hr : Room k callerA)
    (hY : ∀ (w : World) (h : Heap), YP w h → (K w.params).In h)
    (F : ∀ (w : World) (mg : Str → Option Value) (fa : Addr) (h : Heap), (K w.params).In h → h.Ns mainGlobals mg → mg d.name = some (.ref fa) →
      ∃ fd : FuncData, (∀ (s : Shared) (u : Value), BindsTo s fd ⟨[u], []⟩ [(x, u)]) ∧
        ∀ base : Heap, (K w.params).In base → base.Ns mainGlobals mg → FnOk l.prog w (K w.params) mg base (CX w) k fa fd [x] (sp w))
    (hsp : ∀ (w : World) (H : Hp) (a : Addr) (ns : List Int), ns.length ≤ n → Only H → SqL (K w.params) H a (ns.map V.int) → sp w [.ref a] H (fun v _ => v = .bl true) fun _ _ _ => False)
    (hCX : ∀ (w : World) (H : Hp) (s : Shared) (e : Value) (s' : Shared), CX w [] H s (fun _ _ _ => False) e s' → False) :
    PySem.W.WalkO q loose XP YP l.row.toRowW d [] (fun f vs => PySem.call f vs) := by
  refine Att.attach_call hn hdf fun w s₀ s₁ mg mb fa o pm cd doc a vs ns G Y ho hd hcd hmg hobj hints hlen hg => ?_
  have KX := hY w _ Y
  obtain ⟨fd, hb, hF⟩ := F w mg fa _ KX G.T.g hmg
  exact law_call KX G.T.g G.T.b G.T.builtins G.T.nolimit hg hobj hints (Nat.le_trans hlen hn2) hr hF hb (fun H hO hS => hsp w H a ns hlen hO hS) fun H e s' => hCX w H s₁ e s'
end L2

/- THE LAST THEOREM (shape; LID, My.* are yours):
   My.Adr: a structure of the addresses that your layer names (classes, functions); My.Txt K t: a structure (Prop) of the equations over K;
   My.txt_mk : {K} {implicit addresses ..} (e1 : nsIn K mainGlobals "law" = some (some (.ref f))) (e2 : K.lookup f = some ⟨oc, od, .func (fnOf "law" "law" params body scope dV kV doc pm an cdv ct), sl⟩) (e3 : codeIn K cdv "law" = true) .. : ∃ t, My.Txt K t

set_option maxRecDepth 100000 in
set_option maxHeartbeats 0 in
theorem PySem.Challenge.cw_LID_holds : PySem.Challenge.rw_LID.Holds := by
  w_on; o_law; k_head; (case hw => w_witness2)
  k_fill
  refine L2.walk_of (l := PySem.Challenge.rw_LID) (n := 63) (k := 40) (x := "script") (CX := fun w => ..) (sp := fun _ => My.sp_law) rfl (by decide) rfl ⟨rfl, by decide, by decide⟩ (fun w h Y => PySem.W.kIn_of Y) ?F ?S ?C
  case F =>
    intro w mg fa h KX G hmg
    have T : ∃ t, My.Txt (L2.KOf KX) t := by
      dsimp only [L2.KOf]                          -- K must stand as «<heap const> w.params» for k_is
      refine' My.txt_mk ?e1 ?e2 ?e3 ..
      (case e1 => PySem.W.k_is)                    -- in the order: a name -> its address -> its object -> its parts
      (case e2 => PySem.W.k_is)
      ..
    obtain ⟨t, T⟩ := T
    have e0 := hmg.symm.trans (PySem.W.mg_of KX G T.law)
    cases e0                                       -- fa is the law's own address
    exact ⟨_, fun s u => .of_eq rfl, fun base kb nb => My.law_fn T kb nb⟩     -- if «.of_eq rfl» comes too early: refine' ⟨_, ?b, fun base kb nb => My.law_fn T kb nb⟩; exact fun s u => .of_eq rfl
  case S => exact fun w H a ns hl hO hS => ..
  case C => exact ..
(the tactic k_is has no namespace: write k_is) -/

/-! SHORT WORDS over the layer: a def of the text, its body, what a loop and a test want. -/
namespace L2
open PySem PySem.Spec PyProof.Rows

/-! ### the text by places -/
/-- the j-th statement of a class's body -/
def inClass (s : Stmt) (j : Nat) : Stmt := match s with
  | .ClassDef _ _ _ body _ _ _ _ _ _ _ => body.getD j (.Pass ⟨0, 0, 0, 0⟩)
  | _ => .Pass ⟨0, 0, 0, 0⟩
def defArgs (s : Stmt) : Arguments := match s with
  | .FunctionDef _ a _ _ _ _ _ _ _ _ => a
  | _ => { posonlyargs := [], args := [], vararg := none, kwonlyargs := [], kw_defaults := [], kwarg := none, defaults := [] }
def defBody (s : Stmt) : List Stmt := match s with
  | .FunctionDef _ _ b _ _ _ _ _ _ _ => b
  | _ => []
def defScope (s : Stmt) : Scope := match s with
  | .FunctionDef _ _ _ _ _ _ sc _ _ _ => sc
  | _ => { kind := .function, names := [], isGenerator := false, isCoroutine := false }

/-! ### no exception leaves a def -/
abbrev CX0 : CXT := fun _ _ _ _ _ _ => False
abbrev E0 : XK := fun _ _ _ => False
theorem pass0 {X : Cx} : Passes CX0 X E0 := fun _ _ _ _ _ _ _ h => h.elim

/-! ### a def (or method) of the text as it stands behind the top -/
structure Fun (K : PySem.W.Frag) (x qual : Str) (st : Stmt) (f : Addr) (fd : FuncData) : Prop where
  ex : ∃ (oc : Value) (od : Option Addr) (kV doc pm : Value) (an : Option Addr) (cdv ct : Value) (osl : Array (Option Value)),
    fd = PySem.W.fnOf x qual (defArgs st) (defBody st) (defScope st) .none kV doc pm an cdv ct ∧ K.lookup f = some ⟨oc, od, .func fd, osl⟩ ∧ PySem.W.codeIn K cdv qual = true
  kp : PySem.W.keepIn K (.ref f) = true
section
variable {P : Program} {w : World} {K : PySem.W.Frag} {mg : Str → Option Value} {base : Heap}
/-- THE RULE for a def: its body as a term of rules, and the reading of that term -/
theorem Fun.ok {x qual : Str} {st : Stmt} {f : Addr} {fd : FuncData} {N ps : List Str} {k : Nat} {sp : Sp} (F : Fun K x qual st f fd) (S : FnScope N ps (defScope st)) (len : ∀ vs H Q E, sp vs H Q E → vs.length = ps.length)
    (hbody : ∀ (cdv : Value) (A : Around) (outer : List Env) (s : Shared) (H : Hp) (vs : List V) (Q : VK) (E : XK), Room k (A.deeper (envOfC qual (defScope st) s.heap.objs.size f cdv)) → sp vs H Q E →
      ∃ t, PSs (cxOf CX0 P w K mg base N qual (defScope st) f cdv A outer s H E).nox (defBody st) t ∧ t { nx := fun _ H' => Q .non H', rt := Q } (start N vs) H) : FnOk P w K mg base CX0 (k + 1) f fd ps sp := by
  obtain ⟨oc, od, kV, doc, pm, an, cdv, ct, osl, rfl, lk, hcd⟩ := F.ex
  refine fn_of lk hcd S len fun A outer s H vs Q E hr hsp => ?_
  obtain ⟨t, h, q⟩ := hbody cdv A outer s H vs Q E hr hsp
  exact ⟨t, h.nox, q⟩
/-- how its arguments bind (no defaults): h is «fun _ _ _ _ _ _ us hl => match us, hl with | [_, _], _ => rfl», one _ a parameter -/
theorem Fun.binds {x qual : Str} {st : Stmt} {f : Addr} {fd : FuncData} {ps : List Str} (F : Fun K x qual st f fd)
    (h : ∀ (kV doc pm : Value) (an : Option Addr) (cdv ct : Value) (us : List Value), us.length = ps.length → bindArgs (PySem.W.fnOf x qual (defArgs st) (defBody st) (defScope st) .none kV doc pm an cdv ct) ⟨us, []⟩ = pure (ps.zip us)) : Binds K fd ps [] := by
  obtain ⟨oc, od, kV, doc, pm, an, cdv, ct, osl, rfl, lk, hcd⟩ := F.ex
  exact .all (h kV doc pm an cdv ct)
theorem fun_mk {x qual : Str} {st : Stmt} {f : Addr} {oc : Value} {od an : Option Addr} {osl : Array (Option Value)} {kV doc pm cdv ct : Value} (l : K.lookup f = some ⟨oc, od, .func (PySem.W.fnOf x qual (defArgs st) (defBody st) (defScope st) .none kV doc pm an cdv ct), osl⟩)
    (c : PySem.W.codeIn K cdv qual = true) (k : PySem.W.keepIn K (.ref f) = true) : Fun K x qual st f (PySem.W.fnOf x qual (defArgs st) (defBody st) (defScope st) .none kV doc pm an cdv ct) := ⟨⟨oc, od, kV, doc, pm, an, cdv, ct, osl, rfl, l, c⟩, k⟩
end
theorem hu_of {A : Around} {k : Nat} (hr : Room k A) : A.units + 1 < cLine := Nat.lt_of_le_of_lt (Nat.add_le_add_left (by decide : 1 ≤ 64) _) hr.units
theorem small1000 {n : Nat} (h : n ≤ 1000) : n < sizeLine := Nat.lt_of_le_of_lt h (by decide)

/-! ### expressions in short: the name that stands in the i-th slot -/
section
variable {X : Cx}
theorem pv (i : Nat) {x : Str} {pos : Pos} (hN : X.N[i]? = some x := by rfl) (hv : Vis X.env.scope x := by first | exact Or.inl rfl | exact Or.inr (Or.inl rfl) | exact Or.inr (Or.inr rfl)) (hd : (x == ("__debug__" : Str)) = false := by decide)
    (hcd : (x == ("__classdict__" : Str)) = false := by decide) : PE X (.Name x pos) (tVar i) := pe_var hN hv hd hcd
end

/-! ### tests -/
theorem iteF {A B : Prop} (h : B) : if false = true then A else B := by
  rw [if_neg Bool.false_ne_true]
  exact h
theorem iteT {A B : Prop} (h : A) : if true = true then A else B := by
  rw [if_pos rfl]
  exact h
theorem ite2 {c A B : Prop} [Decidable c] (h1 : c → A) (h2 : ¬ c → B) : if c then A else B := by
  by_cases h : c
  · rw [if_pos h]
    exact h1 h
  · rw [if_neg h]
    exact h2 h
theorem iteNS {c A B : Prop} [Decidable c] (hc : c) (h : B) : if (!decide c) = true then A else B := by
  rw [decide_eq_true hc]
  exact iteF h

/-! ### heaps -/
/-- all that was tracked is as it was -/
def Same (H H' : Hp) : Prop := ∀ b o, H b = some o → H' b = some o
theorem Same.trans {H H1 H2 : Hp} (a : Same H H1) (b : Same H1 H2) : Same H H2 := fun c o h => b c o (a c o h)
theorem Same.free {H H' : Hp} (e : Same H H') {l : Addr} (h : H' l = Option.none) : H l = Option.none := by
  cases q : H l with
  | none => rfl
  | some o =>
    rw [e l o q] at h
    cases h
theorem Same.seq {K : PySem.W.Frag} {H H' : Hp} {a : Addr} {xs : List V} (e : Same H H') (h : SqL K H a xs) : SqL K H' a xs := by
  rcases h with (h | ⟨o, h⟩) | h
  · exact .inl (.inl (e _ _ h))
  · exact .inl (.inr ⟨o, e _ _ h⟩)
  · exact .inr h

/-! ### a dict's pairs: keys that differ -/
section
variable {κ : Type} [DecidableEq κ]
theorem valV_not {kvs : List (κ × V)} {k : κ} (h : valV kvs k = none) : ¬ k ∈ kvs.map (·.1) := by
  intro m
  obtain ⟨p, hp, e⟩ := List.mem_map.mp m
  have q : (kvs.any fun kv => decide (kv.1 = k)) = true := List.any_eq_true.mpr ⟨p, hp, decide_eq_true e⟩
  rw [valV_any, h] at q
  exact absurd q (by simp)
theorem valV_in {kvs : List (κ × V)} {k : κ} {v : V} (h : valV kvs k = some v) : k ∈ kvs.map (·.1) := by
  have q : (kvs.any fun kv => decide (kv.1 = k)) = true := by
    rw [valV_any, h]
    all_goals rfl
  obtain ⟨p, hp, e⟩ := List.any_eq_true.mp q
  exact List.mem_map.mpr ⟨p, hp, of_decide_eq_true e⟩
theorem nd_snoc : ∀ {l : List κ} {k : κ}, l.Nodup → ¬ k ∈ l → (l ++ [k]).Nodup
  | [], k, _, _ => by simp
  | a :: r, k, h, hk => by
    obtain ⟨h1, h2⟩ := List.nodup_cons.mp h
    show (a :: (r ++ [k])).Nodup
    refine List.nodup_cons.mpr ⟨fun m => ?_, nd_snoc h2 fun m => hk (List.mem_cons.mpr (Or.inr m))⟩
    rcases List.mem_append.mp m with q | q
    · exact h1 q
    · exact hk (List.mem_cons.mpr (Or.inl (List.mem_singleton.mp q).symm))
theorem nd_putK {kvs : List (κ × V)} {k : κ} (v : V) (hn : (kvs.map (·.1)).Nodup) (h : valV kvs k = none) : ((putK kvs k v).map (·.1)).Nodup := by
  rw [putK_new v h, List.map_append]
  exact nd_snoc hn (valV_not h)
theorem dropK_pos {p : κ × V} {r : List (κ × V)} {k : κ} (e : p.1 = k) : dropK (p :: r) k = dropK r k := by
  unfold dropK
  rw [List.filter_cons, if_neg (by simp [e])]
theorem dropK_neg {p : κ × V} {r : List (κ × V)} {k : κ} (e : ¬ p.1 = k) : dropK (p :: r) k = p :: dropK r k := by
  unfold dropK
  rw [List.filter_cons, if_pos (by simp [e])]
theorem dropK_no : ∀ {kvs : List (κ × V)} {k : κ}, ¬ k ∈ kvs.map (·.1) → dropK kvs k = kvs
  | [], _, _ => rfl
  | p :: r, k, h => by
    have h' : ¬ k ∈ r.map (·.1) := fun m => by
      obtain ⟨q, hq, e⟩ := List.mem_map.mp m
      exact h (List.mem_map.mpr ⟨q, List.mem_cons.mpr (Or.inr hq), e⟩)
    rw [dropK_neg fun e => h (List.mem_map.mpr ⟨p, List.mem_cons.mpr (Or.inl rfl), e⟩), dropK_no h']
theorem dropK_mem {kvs : List (κ × V)} {k : κ} {p : κ × V} (h : p ∈ dropK kvs k) : p ∈ kvs := (List.mem_filter.mp h).1
end
end L2

set_option maxHeartbeats 4000000
/-! ### exceptions of one's own classes: raised, passed on, caught -/
namespace L2
open PySem PySem.Spec PyProof.Rows

/-- how an exception lies behind a call: it flies over B, which has all that is tracked and all that stood ahead but the callers' frames -/
def CXx (P : Program) (w : World) : CXT := fun outer H s E e s' => ∃ (ea : Addr) (cls a0 : Value) (B : Heap) (H' : Hp),
  e = .ref ea ∧ s'.os = s.os ∧ AllBare s'.gens ∧ Un (frs outer) [] H H' s.heap s'.heap ∧ HOk P w H' s'.heap ∧ Heap.FlyingW B outer ea cls a0 s'.heap ∧
  (∀ b u, H' b = some u → ∃ o, B.get? b = some o) ∧ (∀ b o, s.heap.get? b = some o → b ∉ frs outer → ∃ o', B.get? b = some o') ∧ E cls none H'

section
variable {X : Cx} {pins : List (Addr × Obj)} {σ : St} {H : Hp} {s s' : Shared} {E : XK} {e : Value}
/-- a frame of a def -/
structure Own (X : Cx) : Prop where
  st : X.stack = X.env :: X.outer
  fr : X.env.frame = some X.env.locals
  ex : X.ex = []

end


/-- a class of one's own over a built-in exception, as the top has made it -/
structure ExcC (K : PySem.W.Frag) (mg : Str → Option Value) (x : Str) (C : Addr) (bm : List Value) (newId : String) : Prop where
  at_ : mg x = some (.ref C)
  ex : PySem.W.excIn K C bm newId = true
section
variable {P : Program} {w : World} {K : PySem.W.Frag} {mg : Str → Option Value} {base : Heap} {N : List Str} {qual : Str} {scope : Scope} {f : Addr} {cd : Value} {A : Around} {outer : List Env} {s₀ : Shared} {H₀ : Hp} {E : XK}
/-- raise C('..') in a def -/
def tRaise (E : XK) (C : Addr) : TS := fun _ _ H => E (.ref C) none H
end
end L2

/-! ### try, except: a body that may raise, its handlers -/
namespace L2
open PySem PySem.Spec PyProof.Rows

/-- what has been raised in the body of a try: by a call made where the state was s, σ, H -/
def trX (X : Cx) (R : Value → St → Hp → Prop) (e : Value) (s' : Shared) : Prop :=
  ∃ (pins' : List (Addr × Obj)) (σ : St) (H : Hp) (s : Shared), Inv X pins' σ H s ∧ CXx X.prog X.w X.stack H s (fun cls _ H' => R cls σ H') e s'
/-- the context with further pins -/
abbrev Cx.pin (X : Cx) (pins : List (Addr × Obj)) : Cx := { X with pn := X.pn ++ pins }
/-- the context of a try's body -/
abbrev Cx.tr (X : Cx) (pins : List (Addr × Obj)) (R : Value → St → Hp → Prop) : Cx := { X with pn := X.pn ++ pins, xe := trX (X.pin pins) R }
/-- the context of an except suite -/
abbrev Cx.held (X : Cx) (ea : Addr) : Cx := { X with A := X.A.mark (some (.ref ea)), calm := false, xe := fun _ _ => False }

section
variable {X : Cx} {pins pins' : List (Addr × Obj)} {σ : St} {H : Hp} {s : Shared} {R : Value → St → Hp → Prop}
end

/-- an exception of class cls has been caught: s is the state, whose tracked part is H -/
structure Cau (X : Cx) (pins : List (Addr × Obj)) (σ : St) (H : Hp) (ea : Addr) (cls : Value) (s : Shared) : Prop where
  ex : ∃ (H1 : Hp) (s0 : Shared) (B : Heap) (a0 : Value), Inv X pins σ H1 s0 ∧ s.os = s0.os ∧ AllBare s.gens ∧ Un (frs X.stack) [] H1 H s0.heap s.heap ∧ HOk X.prog X.w H s.heap ∧ Heap.FlyingW B X.stack ea cls a0 s.heap ∧
    (∀ b u, H b = some u → ∃ o, B.get? b = some o) ∧ ∀ b o, s0.heap.get? b = some o → b ∉ frs X.stack → ∃ o', B.get? b = some o'


section
variable {X : Cx} {pins : List (Addr × Obj)} {σ : St} {H : Hp} {s : Shared} {ea : Addr} {cls : Value}
end

/-- what the handlers do with an exception of class cls -/
def PH (X : Cx) (hs : List ExceptHandler) (th : Value → TS) : Prop :=
  ∀ (pins : List (Addr × Obj)) (s : Shared) (σ : St) (H : Hp) (D : Ends) (ea : Addr) (cls : Value), Cau X pins σ H ea cls s → th cls D σ H → wpAny (model X.prog X.w) X.A (handleBy (.ref ea) X.env hs) (SP X pins D) X.xe s

/-- try: body, then the handlers; tb: the body's reading, for whatever is wanted of its exceptions -/
def tTry (tb : (Value → St → Hp → Prop) → TS) (th : Value → TS) : TS := fun D σ H => tb (fun cls σ' H' => th cls D σ' H') D σ H

/-- a suite without a name -/
def tHit (K : PySem.W.Frag) (C : Addr) (ts : TS) (tr : Value → TS) : Value → TS := fun cls D σ H => ∃ b, PySem.W.exmOne K cls (.ref C) = some b ∧ if b = true then ts D σ H else tr cls D σ H

/-- an exception object of the class at C -/
def excO (a C : Addr) : HO := .ext fun h => ∃ o vs, h.get? a = some o ∧ o.cls = .ref C ∧ o.data = .fields vs
section
variable {X : Cx} {pins : List (Addr × Obj)} {σ : St} {H : Hp} {s : Shared} {ea C : Addr}
end

/-- a suite with a name -/
def tHitAs (K : PySem.W.Frag) (C : Addr) (i : Nat) (ts : TS) (tr : Value → TS) : Value → TS := fun cls D σ H => ∃ b, PySem.W.exmOne K cls (.ref C) = some b ∧ if b = true then
    ∃ Cx, cls = .ref Cx ∧ ∀ ea, H ea = none → ts { nx := fun σ' H' => D.nx (σ'.set i none) H', rt := D.rt, bk := fun σ' H' => D.bk (σ'.set i none) H', ct := fun σ' H' => D.ct (σ'.set i none) H' } (σ.set i (some (.ref ea))) (upd H ea (excO ea Cx))
  else tr cls D σ H

/-! a call of a class in a try's body: what is wanted of its exceptions hangs on the names' values there -/
def PassS (CX : CXT) (X : Cx) (E : St → XK) : Prop := ∀ (pins : List (Addr × Obj)) (σ : St) (H : Hp) (s : Shared) (e : Value) (s' : Shared), Inv X pins σ H s → CX X.stack H s (E σ) e s' → X.xe e s'
def tMakeS (C : Addr) (sp : Sp) (E : St → XK) (t : TA) : TE := fun σ H Q => t σ H fun vs H1 => ∀ x dx, H1 x = none → H1 dx = none → dx ≠ x →
  sp (.ref x :: vs) (upd (upd H1 dx (.own x)) x (.ins C dx [])) (fun v H2 => v = .non ∧ Q (.ref x) H2) (E σ)
section
variable {X : Cx} {CX : CXT} {k : Nat} {f C : Addr} {fd : FuncData} {ps : List Str} {sp : Sp} {E : St → XK} {x : Str} {p pos : Pos} {e : Expr} {es : List Expr} {t : TA}
end
end L2

/-! ### isinstance of an exception of one's own class -/
namespace L2
open PySem PySem.Spec PyProof.Rows PySem.W Builtin Builtin.ObjectAttr Builtin.Getset_descriptor

/-- what is asked of the class of an exception -/
structure ExcA (K : Frag) (C : Addr) : Prop where
  ga : findIn K (.ref C) "__getattribute__" = some (some (.builtin "BaseException.__getattribute__"))
  gx : findIn K (.ref C) "__getattr__" = some none
  ca : findIn K (.ref C) "__class__" = some (some (.builtin "object.__class__"))
  cn : specialIn K (.builtin "object.__class__") "__get__" = some (some (.builtin "getset_descriptor.__get__"))
  ct : takesIn K (.builtin "object.__class__") = some true
  mo : mroIn K C (.type "object") = some true
  mb : mroIn K C (.type "BaseException") = some true
  cl : (clsIn K C).isSome = true

section
variable {K : Frag} {C x : Addr} {h : Heap} {M : Model}
variable {prog : Program} {w : World} {A : Around} {E : Value → Shared → Prop} {s : Shared}
end

/-- isinstance(error, C), isinstance(error, (C, D)) -/
def rIsi (K : Frag) : List V → Hp → VK → Prop := fun vs H Q => ∃ a C b, H a = some (excO a C) ∧ ExcA K C ∧ Q (.bl b) H ∧
  ((∃ D, vs = [.ref a, .ref D] ∧ kitOne K (.ref C) (.ref D) = some b) ∨ (∃ T, vs = [.ref a, .ty T] ∧ kitOne K (.ref C) (.type T) = some b) ∨
   ∃ (t : Addr) (ds : List Addr), vs = [.ref a, .ref t] ∧ H t = some (.tup (ds.map V.ref)) ∧ kitAny K (.ref C) (ds.map Value.ref) = some b)
end L2

/-! ### The sort of fewer than 64 items, as the tree of its questions: it puts them in order -/
namespace Sx
open PySem.W PyProof.Rows

/-- what the tree gives where the question (i, j) is answered by lt i j; each place asked lies below N -/
def Wp {α : Type} (N : Nat) (lt : Nat → Nat → Bool) : KasT α → (α → Prop) → Prop
  | .ret a, Q => Q a
  | .ask i j k, Q => i < N ∧ j < N ∧ Wp N lt (k (lt i j)) Q
theorem Wp.bind {α β : Type} {N : Nat} {lt : Nat → Nat → Bool} {f : α → KasT β} {Q : β → Prop} : ∀ (t : KasT α), Wp N lt t (fun a => Wp N lt (f a) Q) → Wp N lt (t.bind f) Q
  | .ret _, h => h
  | .ask _ _ k, ⟨h1, h2, h⟩ => ⟨h1, h2, Wp.bind (k _) h⟩

section
variable {O : KeyOrd} (key : Nat → O.α)
/-- the key at a place -/
def KP (p : Array Nat) (i : Nat) : O.α := key (p[i]?.getD 0)
def Up (p : Array Nat) (k : Nat) : Prop := ∀ i j, i ≤ j → j < k → O.kle (KP key p i) (KP key p j)
def Down (p : Array Nat) (k : Nat) : Prop := ∀ i j, i ≤ j → j < k → O.kle (KP key p j) (KP key p i)
def ltK (i j : Nat) : Bool := O.blt (key i) (key j)
/-- p is the numbers below N in some order -/
def PB (N : Nat) (p : Array Nat) : Prop := p.Perm (List.range N).toArray
end
theorem PB.size {N : Nat} {p : Array Nat} (h : PB N p) : p.size = N := by
  have := Array.Perm.size_eq h
  simpa using this
theorem PB.below {N : Nat} {p : Array Nat} (h : PB N p) {i : Nat} (hi : i < N) : p.getD i 0 < N := by
  have hs := h.size
  have hi' : i < p.size := by omega
  have e : p.getD i 0 = p[i] := by simp [Array.getD, hi']
  have hm : p[i] ∈ (List.range N).toArray := (Array.Perm.mem_iff h).mp (Array.getElem_mem hi')
  rw [e]
  simpa using hm
theorem getD_eq (p : Array Nat) (i : Nat) : p.getD i 0 = p[i]?.getD 0 := by simp
theorem PB.rev {N : Nat} {p : Array Nat} (h : PB N p) (i j : Nat) : PB N (kas_rev p i j) := (mirror_perm _ _ _ _).trans h
theorem PB.bub {N : Nat} {p : Array Nat} (h : PB N p) (i j : Nat) : PB N (bubble p i j) := (bubble_perm _ _ _).trans h

section
variable {O : KeyOrd} {key : Nat → O.α} {N : Nat} {p : Array Nat}
theorem KP_rev {i j : Nat} (hj : j ≤ p.size) (k : Nat) : KP key (kas_rev p i j) k = if i ≤ k ∧ k < j then KP key p (i + j - 1 - k) else KP key p k := by
  have e := getElem?_mirror_all (xs := p) (i := i) hj k
  unfold KP kas_rev
  rw [e]
  by_cases h : i ≤ k ∧ k < j
  · rw [if_pos h, if_pos h]
  · rw [if_neg h, if_neg h]
theorem KP_bub {src d : Nat} (hs : src < p.size) (hd : d ≤ src) (k : Nat) :
    KP key (bubble p src d) k = if k = src - d then KP key p src else if src - d < k ∧ k ≤ src then KP key p (k - 1) else KP key p k := by
  have e := getElem?_bubble hs d hd k
  unfold KP
  rw [e]
  by_cases h : k = src - d
  · rw [if_pos h, if_pos h]
  · rw [if_neg h, if_neg h]
    by_cases h2 : src - d < k ∧ k ≤ src
    · rw [if_pos h2, if_pos h2]
    · rw [if_neg h2, if_neg h2]
/-- a stretch of alike keys turned about stays -/
theorem KP_rev_alike {i j : Nat} (hj : j ≤ p.size) (he : ∀ k, i ≤ k → k < j → KP key p k = KP key p (j - 1)) (k : Nat) : KP key (kas_rev p i j) k = KP key p k := by
  rw [KP_rev hj]
  by_cases h : i ≤ k ∧ k < j
  · rw [if_pos h, he _ (by omega) (by omega), he k h.1 h.2]
  · rw [if_neg h]
theorem lt_true {i j : Nat} (h : ltK key (p.getD i 0) (p.getD j 0) = true) : O.klt (KP key p i) (KP key p j) := by
  rw [getD_eq, getD_eq] at h
  exact h
theorem lt_false {i j : Nat} (h : ltK key (p.getD i 0) (p.getD j 0) = false) : O.kle (KP key p j) (KP key p i) := by
  rw [getD_eq, getD_eq] at h
  exact h
theorem Up.grow {n : Nat} (h : Up key p n) (h1 : 1 ≤ n) (hn : O.kle (KP key p (n - 1)) (KP key p n)) : Up key p (n + 1) := fun i j hij hj => by
  by_cases e : j < n
  · exact h i j hij e
  · obtain rfl : j = n := by omega
    by_cases e2 : i = j
    · subst e2; exact KeyOrd.kle_refl _
    · exact KeyOrd.kle_trans (h i (j - 1) (by omega) (by omega)) hn
theorem Down.grow {n : Nat} (h : Down key p n) (h1 : 1 ≤ n) (hn : O.kle (KP key p n) (KP key p (n - 1))) : Down key p (n + 1) := fun i j hij hj => by
  by_cases e : j < n
  · exact h i j hij e
  · obtain rfl : j = n := by omega
    by_cases e2 : i = j
    · subst e2; exact KeyOrd.kle_refl _
    · exact KeyOrd.kle_trans hn (h i (j - 1) (by omega) (by omega))
theorem Up.one : Up key p 1 := fun i j hij hj => by
  obtain rfl : i = j := by omega
  exact KeyOrd.kle_refl _

theorem asc_wp {Q : Nat → Prop} : ∀ (f n : Nat), PB N p → 1 ≤ n → n + f ≤ N → Up key p n →
    (∀ m, n ≤ m → m ≤ n + f → Up key p m → (m = n + f ∨ O.klt (KP key p m) (KP key p (m - 1))) → Q m) → Wp N (ltK key) (kas_asc p f n) Q
  | 0, n, _, _, _, hu, h => h n (Nat.le_refl _) (Nat.le_refl _) hu (.inl rfl)
  | f + 1, n, hp, h1, hn, hu, h => by
    refine ⟨hp.below (by omega), hp.below (by omega), ?_⟩
    cases c : ltK key (p.getD n 0) (p.getD (n - 1) 0) with
    | true => exact h n (Nat.le_refl _) (by omega) hu (.inr (lt_true c))
    | false =>
      exact asc_wp f (n + 1) hp (by omega) (by omega) (hu.grow h1 (lt_false c)) fun m a b u d => h m (by omega) (by omega) u (d.imp (fun e => by omega) id)
theorem desc_wp {Q : Array Nat × Nat × Nat → Prop} : ∀ (f n q : Nat) (p : Array Nat), PB N p → 1 ≤ n → n + f ≤ N → Down key p n → q + 1 ≤ n → (∀ i, n - (q + 1) ≤ i → i < n → KP key p i = KP key p (n - 1)) →
    (∀ p' m q', PB N p' → n ≤ m → m ≤ n + f → Down key p' m → q' + 1 ≤ m → (∀ i, m - (q' + 1) ≤ i → i < m → KP key p' i = KP key p' (m - 1)) → Q (p', m, q')) → Wp N (ltK key) (kas_desc f p n q) Q
  | 0, n, q, p, hp, _, _, hd, hq, he, h => h p n q hp (Nat.le_refl _) (Nat.le_refl _) hd hq he
  | f + 1, n, q, p, hp, h1, hn, hd, hq, he, h => by
    refine ⟨hp.below (by omega), hp.below (by omega), ?_⟩
    have hz : n ≤ p.size := by rw [hp.size]; omega
    have alone : ∀ (r : Array Nat) i, n + 1 - (0 + 1) ≤ i → i < n + 1 → KP key r i = KP key r (n + 1 - 1) := fun r i a b => by
      obtain rfl : i = n + 1 - 1 := by omega
      rfl
    cases c : ltK key (p.getD n 0) (p.getD (n - 1) 0) with
    | true =>
      have g := hd.grow h1 (KeyOrd.kle_of_klt (lt_true c))
      show Wp N (ltK key) (if q > 0 then _ else _) Q
      by_cases e : q > 0
      · rw [if_pos e]
        have same := KP_rev_alike (key := key) (p := p) (i := n - (q + 1)) hz he
        exact desc_wp f (n + 1) 0 _ (hp.rev _ _) (by omega) (by omega) (fun i j a b => by rw [same, same]; exact g i j a b) (by omega) (alone _)
          fun p' m q' a b d u v w => h p' m q' a (by omega) (by omega) u v w
      · rw [if_neg e]
        exact desc_wp f (n + 1) 0 _ hp (by omega) (by omega) g (by omega) (alone _) fun p' m q' a b d u v w => h p' m q' a (by omega) (by omega) u v w
    | false =>
      show Wp N (ltK key) (KasT.ask _ _ _) Q
      refine ⟨hp.below (by omega), hp.below (by omega), ?_⟩
      cases d : ltK key (p.getD (n - 1) 0) (p.getD n 0) with
      | true => exact h p n q hp (Nat.le_refl _) (by omega) hd hq he
      | false =>
        have eq : KP key p n = KP key p (n - 1) := KeyOrd.kle_antisymm (lt_false d) (lt_false c)
        refine desc_wp f (n + 1) (q + 1) p hp (by omega) (by omega) (hd.grow h1 (lt_false d)) (by omega) (fun i a b => ?_) fun p' m q' a b d u v w => h p' m q' a (by omega) (by omega) u v w
        show KP key p i = KP key p n
        by_cases e : i = n
        · rw [e]
        · rw [he i (by omega) (by omega), eq]
theorem tail3_wp {n nrem : Nat} {Q : Nat × Array Nat → Prop} (hp : PB N p) (h1 : 1 ≤ n) (hn : n ≤ nrem) (hN : nrem ≤ N) (hd : Down key p n)
    (h : ∀ m p', PB N p' → 1 ≤ m → m ≤ nrem → Up key p' m → Q (m, p')) : Wp N (ltK key) (kas_tail3 n nrem p) Q := by
  have hz : n ≤ p.size := by rw [hp.size]; omega
  refine Wp.bind _ (asc_wp (nrem - n) n (hp.rev 0 n) h1 (by omega) (fun i j hij hj => ?_) fun m a b u _ => h m _ (hp.rev 0 n) (by omega) (by omega) u)
  rw [KP_rev hz, KP_rev hz, if_pos ⟨Nat.zero_le _, by omega⟩, if_pos ⟨Nat.zero_le _, hj⟩]
  exact hd _ _ (by omega) (by omega)
theorem descPart_wp {n nrem : Nat} {Q : Nat × Array Nat → Prop} (hp : PB N p) (hn : n + 1 ≤ nrem) (hN : nrem ≤ N) (hd : Down key p (n + 1))
    (h : ∀ m p', PB N p' → 1 ≤ m → m ≤ nrem → Up key p' m → Q (m, p')) : Wp N (ltK key) (kas_descPart n nrem p) Q := by
  refine Wp.bind _ (desc_wp (nrem - (n + 1)) (n + 1) 0 p hp (by omega) (by omega) hd (by omega) (fun i a b => by congr 1; omega) fun p' m q' hp' a b hd' hq he => ?_)
  have hz : m ≤ p'.size := by rw [hp'.size]; omega
  show Wp N (ltK key) (if q' > 0 then kas_tail3 m nrem (kas_rev p' (m - (q' + 1)) m) else kas_tail3 m nrem p') Q
  by_cases e : q' > 0
  · rw [if_pos e]
    have same := KP_rev_alike (key := key) (p := p') (i := m - (q' + 1)) hz he
    exact tail3_wp (hp'.rev _ _) (by omega) (by omega) hN (fun i j a b => by rw [same, same]; exact hd' i j a b) h
  · rw [if_neg e]
    exact tail3_wp hp' (by omega) (by omega) hN hd' h
theorem count_wp {nrem : Nat} {Q : Nat × Array Nat → Prop} (hp : PB N p) (h1 : 1 ≤ nrem) (hN : nrem ≤ N)
    (h : ∀ m p', PB N p' → 1 ≤ m → m ≤ nrem → Up key p' m → Q (m, p')) : Wp N (ltK key) (kas_count nrem p) Q := by
  refine Wp.bind _ (asc_wp (nrem - 1) 1 hp (Nat.le_refl _) (by omega) Up.one fun n a b u d => ?_)
  have hz : n ≤ p.size := by rw [hp.size]; omega
  show Wp N (ltK key) (if (n == nrem) = true then _ else _) Q
  by_cases e : n = nrem
  · rw [if_pos (by simpa using e)]
    exact h n p hp (by omega) (by omega) u
  · rw [if_neg (by simpa using e)]
    have lt : O.klt (KP key p n) (KP key p (n - 1)) := d.resolve_left (by omega)
    by_cases e2 : n > 1
    · rw [if_pos e2]
      refine ⟨hp.below (by omega), hp.below (by omega), ?_⟩
      cases c : ltK key (p.getD 0 0) (p.getD (n - 1) 0) with
      | true => exact h n p hp (by omega) (by omega) u
      | false =>
        have all : ∀ k, 0 ≤ k → k < n → KP key p k = KP key p (n - 1) := fun k _ hk =>
          KeyOrd.kle_antisymm (u k (n - 1) (by omega) (by omega)) (KeyOrd.kle_trans (lt_false c) (u 0 k (by omega) hk))
        have same := KP_rev_alike (key := key) (p := p) (i := 0) hz all
        refine descPart_wp (hp.rev _ _) (by omega) hN (fun i j hij hj => ?_) h
        rw [same, same]
        by_cases z : j < n
        · rw [all i (by omega) (by omega), all j (by omega) z]; exact KeyOrd.kle_refl _
        · obtain rfl : j = n := by omega
          by_cases z2 : i = j
          · subst z2; exact KeyOrd.kle_refl _
          · rw [all i (by omega) (by omega)]; exact KeyOrd.kle_of_klt lt
    · rw [if_neg e2]
      obtain rfl : n = 1 := by omega
      refine descPart_wp hp (by omega) hN (fun i j hij hj => ?_) h
      by_cases z : i = j
      · subst z; exact KeyOrd.kle_refl _
      · obtain rfl : i = 0 := by omega
        obtain rfl : j = 1 := by omega
        exact KeyOrd.kle_of_klt lt
theorem place_wp {k : Nat} {Q : Nat → Prop} (hp : PB N p) (hk : k < N) (hu : Up key p k) : ∀ (f l r : Nat), l ≤ r → r ≤ k → r - l ≤ f → (∀ i, i < l → O.kle (KP key p i) (KP key p k)) → (∀ i, r ≤ i → i < k → O.klt (KP key p k) (KP key p i)) →
    (∀ l, l ≤ k → (∀ i, i < l → O.kle (KP key p i) (KP key p k)) → (∀ i, l ≤ i → i < k → O.klt (KP key p k) (KP key p i)) → Q l) → Wp N (ltK key) (kas_place p k f l r) Q
  | 0, l, r, a, b, c, lo, hi, h => h l (by omega) lo (fun i x y => hi i (by omega) y)
  | f + 1, l, r, a, b, c, lo, hi, h => by
    unfold kas_place
    by_cases e : l ≥ r
    · rw [if_pos e]
      exact h l (by omega) lo (fun i x y => hi i (by omega) y)
    · rw [if_neg e]
      refine ⟨hp.below hk, hp.below (by omega), ?_⟩
      cases d : ltK key (p.getD k 0) (p.getD ((l + r) / 2) 0) with
      | true => exact place_wp hp hk hu f l ((l + r) / 2) (by omega) (by omega) (by omega) lo (fun i x y => KeyOrd.klt_of_klt_of_kle (lt_true d) (hu _ _ x y)) h
      | false => exact place_wp hp hk hu f ((l + r) / 2 + 1) r (by omega) b (by omega) (fun i x => KeyOrd.kle_trans (hu i ((l + r) / 2) (by omega) (by omega)) (lt_false d)) hi h
theorem bin_wp {Q : Array Nat → Prop} : ∀ (f k : Nat) (p : Array Nat), PB N p → k + f = N → Up key p k → (∀ p', PB N p' → Up key p' N → Q p') → Wp N (ltK key) (kas_bin f p k) Q
  | 0, k, p, hp, hk, hu, h => h p hp (by rw [← hk]; exact hu)
  | f + 1, k, p, hp, hk, hu, h => by
    refine Wp.bind _ (place_wp hp (by omega) hu k 0 k (Nat.zero_le _) (Nat.le_refl _) (by omega) (fun i x => by omega) (fun i x y => by omega) fun l hl lo hi => ?_)
    refine bin_wp f (k + 1) _ (hp.bub _ _) (by omega) (fun i j hij hj => ?_) h
    have hz : k < p.size := by rw [hp.size]; omega
    rw [KP_bub hz (by omega), KP_bub hz (by omega), show k - (k - l) = l by omega]
    repeat' split
    all_goals first
      | (exfalso; omega)
      | exact KeyOrd.kle_refl _
      | exact lo _ (by omega)
      | exact KeyOrd.kle_of_klt (hi _ (by omega) (by omega))
      | exact hu _ _ (by omega) (by omega)
/-- THE SORT -/
theorem sort_wp {n : Nat} (h1 : 1 ≤ n) {Q : Array Nat → Prop} (h : ∀ p, PB n p → Up key p n → Q p) : Wp n (ltK key) (kas_sort n) Q := by
  refine Wp.bind _ (count_wp (Array.Perm.refl _) h1 (Nat.le_refl _) fun m p' hp a b u => ?_)
  show Wp n (ltK key) (if m < n then _ else _) Q
  by_cases e : m < n
  · rw [if_pos e, show max m 1 = m by omega]
    exact bin_wp (n - m) m p' hp (by omega) u h
  · rw [if_neg e]
    obtain rfl : m = n := by omega
    exact h p' hp u
end
end Sx

/-! ### lists of tuples of ints: the order, the comparison, list.sort -/
namespace Sx
open PySem PySem.W PyProof.Rows

theorem lex_irr : ∀ a : List Int, HT.lexLt a a = false
  | [] => rfl
  | x :: xs => by rw [HT.lexLt_cons, if_pos rfl]; exact lex_irr xs
theorem lex_trans : ∀ a b c : List Int, HT.lexLt a b = true → HT.lexLt b c = true → HT.lexLt a c = true
  | [], _, [], h1, h2 => by
    rename_i b
    cases b with
    | nil => exact h1
    | cons y ys => rw [HT.lexLt_cons_nil] at h2; cases h2
  | [], _, _ :: _, _, _ => rfl
  | x :: xs, [], _, h1, _ => by rw [HT.lexLt_cons_nil] at h1; cases h1
  | x :: xs, y :: ys, [], _, h2 => by rw [HT.lexLt_cons_nil] at h2; cases h2
  | x :: xs, y :: ys, z :: zs, h1, h2 => by
    rw [HT.lexLt_cons] at h1 h2 ⊢
    by_cases e1 : x = y
    · subst e1
      rw [if_pos rfl] at h1
      by_cases e2 : x = z
      · rw [if_pos e2] at h2 ⊢
        exact lex_trans xs ys zs h1 h2
      · rw [if_neg e2] at h2 ⊢
        exact h2
    · rw [if_neg e1] at h1
      have l1 : x < y := of_decide_eq_true h1
      by_cases e2 : y = z
      · subst e2
        rw [if_neg e1]
        exact h1
      · rw [if_neg e2] at h2
        have l2 : y < z := of_decide_eq_true h2
        rw [if_neg (by omega)]
        exact decide_eq_true (by omega)
theorem lex_tot : ∀ a b : List Int, HT.lexLt a b = false → HT.lexLt b a = false → a = b
  | [], [], _, _ => rfl
  | [], _ :: _, h, _ => by rw [HT.lexLt_nil_cons] at h; cases h
  | _ :: _, [], _, h => by rw [HT.lexLt_nil_cons] at h; cases h
  | x :: xs, y :: ys, h1, h2 => by
    rw [HT.lexLt_cons] at h1 h2
    by_cases e : x = y
    · subst e
      rw [if_pos rfl] at h1 h2
      rw [lex_tot xs ys h1 h2]
    · rw [if_neg e] at h1
      rw [if_neg (Ne.symm e)] at h2
      have l1 : ¬ x < y := of_decide_eq_false h1
      have l2 : ¬ y < x := of_decide_eq_false h2
      omega
theorem lex_neg (a b c : List Int) (h : HT.lexLt a c = true) : HT.lexLt a b = true ∨ HT.lexLt b c = true := by
  cases e1 : HT.lexLt a b with
  | true => exact .inl rfl
  | false =>
    refine .inr ?_
    cases e2 : HT.lexLt b a with
    | true => exact lex_trans b a c e2 h
    | false =>
      have e := lex_tot a b e1 e2
      subst e
      exact h
/-- the order of tuples of ints -/
def lexO : KeyOrd where
  α := List Int
  blt := HT.lexLt
  irrefl := lex_irr
  trans := lex_trans
  negTrans := lex_neg
  total := lex_tot

/-- a tree whose questions are answered by lt, at a state that stays -/
theorem Wp.kas {α : Type} {N : Nat} {lt : Nat → Nat → Bool} {cmp : Nat → Nat → (Bool → Shared → Prop) → Shared → Prop} {Q : α → Prop} {G : α → Shared → Prop} {s : Shared}
    (hc : ∀ i j C, i < N → j < N → C (lt i j) s → cmp i j C s) (hG : ∀ a, Q a → G a s) : ∀ t : KasT α, Wp N lt t Q → t.kasWp cmp G s
  | .ret a, h => hG a h
  | .ask i j k, ⟨h1, h2, h⟩ => hc i j _ h1 h2 (Wp.kas hc hG (k _) h)

section
variable {prog : Program} {w : World} {A : Around} {E : Value → Shared → Prop} {s : Shared}
/-- two tuples of ints compared as list.sort does -/
theorem kat_ints {b fin : Bool} {Q : Bool → Shared → Prop} : ∀ {vs us : List Value} {ns ms : List Int} (i : Nat), IntsAre vs ns → IntsAre us ms → fin = decide (ns.length < ms.length) → Q (HT.lexLt ns ms) s →
    KatLex prog w A b fin Q (vs.zip us) i s
  | _, _, _, _, i, .nil, .nil, e, h => by
    have e' : fin = false := e
    subst e'
    exact kat_nil h
  | _, _, _, _, i, .nil, .cons _ _ _, e, h => by
    have e' : fin = true := by rw [e]; exact decide_eq_true (by simp)
    subst e'
    exact kat_nil h
  | _, _, _, _, i, .cons _ _ _, .nil, e, h => by
    have e' : fin = false := by rw [e]; exact decide_eq_false (by simp)
    subst e'
    exact kat_nil h
  | _, _, _, _, i, .cons a t ha, .cons c u hc, e, h => by
    rw [List.zip_cons_cons]
    rw [HT.lexLt_cons] at h
    refine kat_cons (wpAny_eqBool_int (kat_go (fun q => ?_) fun q => ?_))
    · have ac : a = c := eq_of_beq q
      rw [if_pos ac] at h
      exact kat_yes (kat_ints (i + 1) ha hc (by rw [e]; simp) h)
    · have ac : ¬ a = c := by simpa using q
      rw [if_neg ac] at h
      refine kat_no ?_
      cases (b && i == 0) with
      | true => exact oneLt_int h
      | false => exact kat_one _ _ (PyProof.Rows.lt_int h)

/-- a tuple of ints stands at a -/
def TupI (h : Heap) (a : Addr) (t : List Int) : Prop := ∃ o its n, h.get? a = some o ∧ o.cls = .type "tuple" ∧ o.data = .seq its n ∧ IntsAre its.toList t
theorem TupI.keep {h h' : Heap} {a : Addr} {t : List Int} (x : TupI h a t) (k : ∀ o, h.get? a = some o → h'.get? a = some o) : TupI h' a t :=
  let ⟨o, its, n, e, r⟩ := x; ⟨o, its, n, k o e, r⟩
theorem lt_tups {x y : Addr} {b : Bool} {t u : List Int} {Q : Bool → Shared → Prop} (hx : TupI s.heap x t) (hy : TupI s.heap y u) (h : Q (HT.lexLt t u) s) : wpAny (model prog w) A (keyLt' (tuples' b) (.ref x) (.ref y)) Q E s := by
  obtain ⟨ox, xs, n, ex, _, dx, ix⟩ := hx
  obtain ⟨oy, ys, k, ey, _, dy, iy⟩ := hy
  refine kat_lt ex dx ey dy (kat_ints 0 ix iy ?_ h)
  rw [← ix.length, ← iy.length, Array.length_toList, Array.length_toList]
/-- the kind of keys that list.sort finds: tuples whose first items are ints -/
theorem kind_tups {rs : List Addr} {ts : List (List Int)} {Q : SortKind → Shared → Prop} (h2 : 0 < rs.length) (hp : Paired (fun r t => TupI s.heap r t ∧ t ≠ []) rs ts) (h : ∀ b, Q (tuples' b) s) :
    wpAny (model prog w) A (keyKind' (rs.map Value.ref).toArray) Q E s := by
  have all : ∃ fs : List Value, KatTups s.heap (rs.map Value.ref) fs ∧ fs.length = rs.length ∧ ∀ v ∈ fs, ∃ i t, v = Value.int i t := by
    clear h h2
    induction hp with
    | nil => exact ⟨[], trivial, rfl, fun v hv => nomatch hv⟩
    | @cons r t rs ts hr _ ih =>
      obtain ⟨fs, k1, k2, k3⟩ := ih
      obtain ⟨⟨o, its, n, e, c, d, ii⟩, hne⟩ := hr
      cases t with
      | nil => exact absurd rfl hne
      | cons i t =>
        generalize hL : its.toList = L at ii
        cases ii with
        | cons _ tk ii' =>
          have h0 : its[0]? = some (Value.int i tk) := by rw [← Array.getElem?_toList, hL]; rfl
          refine ⟨Value.int i tk :: fs, ⟨⟨r, o, its, n, rfl, e, c, d, h0⟩, k1⟩, by rw [List.length_cons, List.length_cons, k2], fun v hv => ?_⟩
          rcases List.mem_cons.mp hv with rfl | hv
          · exact ⟨i, tk, rfl⟩
          · exact k3 v hv
  obtain ⟨fs, k1, k2, k3⟩ := all
  refine kat_kind (T := .type "int") k1 (by omega) (fun v hv => ?_) (by decide) (h _)
  obtain ⟨i, tk, rfl⟩ := k3 v hv
  exact Looks.of_pure rfl

/-- what list.sort leaves: the addresses of the tuples in the order of the tuples -/
structure Sorted (rs : List Addr) (ts : List (List Int)) (rs' : List Addr) (ts' : List (List Int)) : Prop where
  perm : (rs'.zip ts').Perm (rs.zip ts)
  len : rs'.length = ts'.length
  ord : ts'.Pairwise fun a b => HT.lexLt b a = false
end
end Sx

namespace Sx
open PySem PySem.W PyProof.Rows
theorem range_zip : ∀ (rs : List Addr) (ts : List (List Int)), rs.length = ts.length → (List.range rs.length).map (fun i => (rs.getD i 0, ts.getD i [])) = rs.zip ts := by
  intro rs ts hl
  apply List.ext_getElem?
  intro i
  rw [List.getElem?_map]
  by_cases hi : i < rs.length
  · have hi2 : i < ts.length := by omega
    rw [List.getElem?_range hi, List.getElem?_eq_getElem (l := rs.zip ts) (by rw [List.length_zip]; omega), List.getElem_zip]
    simp [hi, hi2]
  · have e1 : (List.range rs.length)[i]? = none := List.getElem?_eq_none (by simpa using hi)
    have e2 : (rs.zip ts)[i]? = none := List.getElem?_eq_none (by rw [List.length_zip]; omega)
    rw [e1, e2]; rfl
theorem sorted_of {rs : List Addr} {ts : List (List Int)} {p : Array Nat} (hl : rs.length = ts.length) (hp : PB rs.length p) (hu : Up (O := lexO) (fun i => ts.getD i []) p rs.length) :
    Sorted rs ts (p.toList.map fun i => rs.getD i 0) (p.toList.map fun i => ts.getD i []) := by
  have hpl : p.toList.Perm (List.range rs.length) := by
    have := Array.perm_iff_toList_perm.mp hp
    simpa using this
  refine ⟨?_, by simp, ?_⟩
  · have e : (p.toList.map fun i => rs.getD i 0).zip (p.toList.map fun i => ts.getD i []) = p.toList.map (fun i => (rs.getD i 0, ts.getD i [])) := by
      rw [List.zip_map']
    rw [e, ← range_zip rs ts hl]
    exact hpl.map _
  · rw [List.pairwise_iff_getElem]
    intro i j hi hj hij
    rw [List.length_map, Array.length_toList] at hi hj
    have hs := hp.size
    have q := hu i j (Nat.le_of_lt hij) (by omega)
    have ei : (p.toList.map fun i => ts.getD i [])[i]'(by simpa using hi) = ts.getD (p[i]?.getD 0) [] := by simp [hi]
    have ej : (p.toList.map fun i => ts.getD i [])[j]'(by simpa using hj) = ts.getD (p[j]?.getD 0) [] := by simp [hj]
    rw [ei, ej]
    exact q
section
variable {prog : Program} {w : World} {A : Around} {E : Value → Shared → Prop} {s : Shared}
theorem pair_at {α β : Type} {F : α → β → Prop} : ∀ {l₁ : List α} {l₂ : List β} {i : Nat} {a : α}, Paired F l₁ l₂ → l₁[i]? = some a → ∃ b, l₂[i]? = some b ∧ F a b
  | _, _, _, _, .nil, e => by simp at e
  | _, _, 0, _, .cons h _, e => by simp at e; subst e; exact ⟨_, rfl, h⟩
  | _, _, i + 1, a, .cons _ t, e => by
    obtain ⟨b, h1, h2⟩ := pair_at (i := i) (a := a) t (by simpa using e)
    exact ⟨b, by simpa using h1, h2⟩
theorem refs_getD (rs : List Addr) {i : Nat} (hi : i < rs.length) : (rs.map Value.ref).getD i Value.none = .ref (rs.getD i 0) := by
  simp [hi]
/-- list.sort of a list of tuples of ints -/
theorem sort_tree {a : Addr} {rs : List Addr} {ts : List (List Int)} {n : Nat} {P : PySem.Fin → Shared → Prop} (ho : s.heap.get? a = some (seqObj "list" (rs.map Value.ref).toArray n)) (h64 : rs.length < 64)
    (hp : Paired (fun r t => TupI s.heap r t ∧ t ≠ []) rs ts) (hna : a ∉ rs)
    (h : ∀ rs' ts' h' c, Sorted rs ts rs' ts' → (∀ b o, b ≠ a → s.heap.get? b = some o → h'.get? b = some o) → h'.get? a = some (seqObj "list" (rs'.map Value.ref).toArray c) → P (.done (.ret .none)) { s with heap := h' }) :
    wpAny (model prog w) A (Builtin.«list.sort» ⟨[.ref a], []⟩) P E s := by
  have hl : rs.length = ts.length := Paired.length hp
  have hlt : a < s.heap.objs.size := Heap.lt_size ho
  rw [list_sort_plain]
  refine wpAny_bind (listItems_at ho rfl (wpAny_bind (listUpdate_at ho rfl ?_ (by rw [List.size_toArray, List.length_map, sizeLine_eq]; omega) (Nat.zero_le _))))
  obtain ⟨e1, ho1⟩ : ∃ e1, (s.heap.update a (Obj.mapSeq fun _ => (#[] : Array Value))).get? a = some (seqObj "list" #[] e1) := ⟨_, get?_update_seq ho fun _ => #[]⟩
  have sb := Heap.SameBut.update s.heap a (Obj.mapSeq fun _ => (#[] : Array Value))
  refine wpAny_bind (seqEpoch_at ho1 rfl (wpAny_bind (wpAny_newTuple ?_ (by rw [Array.length_toList, List.size_toArray, List.length_map, sizeLine_eq]; omega))))
  refine wpAny_bind (wpAny_newList (wpAny_holding ?_) (Nat.zero_le _))
  generalize hh2 : (Heap.push (Heap.push (s.heap.update a (Obj.mapSeq fun _ => (#[] : Array Value))) _) _) = h2
  have old : ∀ b o, b ≠ a → s.heap.get? b = some o → h2.get? b = some o := fun b o hb e => by
    rw [← hh2]
    exact Heap.get?_push_of_some _ (Heap.get?_push_of_some _ ((sb.2 b hb).trans e))
  have ho2 : h2.get? a = some (seqObj "list" #[] e1) := by
    rw [← hh2]
    exact Heap.get?_push_of_some _ (Heap.get?_push_of_some _ ho1)
  have fin : ∀ (rs' : List Addr) (ts' : List (List Int)), Sorted rs ts rs' ts' → ∀ (out : Array Value), out = (rs'.map Value.ref).toArray →
      P (.done (.ret .none)) { s with heap := h2.update a (Obj.mapSeq fun _ => out) } := fun rs' ts' hS out eo => by
    subst eo
    refine h rs' ts' _ _ hS (fun b o hb e => ?_) (get?_update_seq ho2 fun _ => (rs'.map Value.ref).toArray)
    exact ((Heap.SameBut.update h2 a (Obj.mapSeq fun _ => (rs'.map Value.ref).toArray)).2 b hb).trans (old b o hb e)
  have hsz : (rs.map Value.ref).toArray.size = rs.length := by rw [List.size_toArray, List.length_map]
  dsimp only
  by_cases h2' : (rs.map Value.ref).toArray.size < 2
  · rw [if_pos h2', if_pos h2']
    refine wpAny_bind (wpAny_pure ?_)
    rw [StateT.run_pure]
    refine wpAny_bind (wpAny_pure ?_)
    dsimp only
    have eo : (arrOf (SortSt.mk' general' ((rs.map Value.ref).toArray.zip (rs.map Value.ref).toArray) #[] 7 none)).map (fun x => x.2) = (rs.map Value.ref).toArray := by
      show ((rs.map Value.ref).toArray.zip (rs.map Value.ref).toArray).map (fun x => x.2) = _
      apply Array.toList_inj.mp
      simp only [Array.toList_map, Array.toList_zip, List.toList_toArray]
      exact List.map_snd_zip (Nat.le_refl _)
    refine wpAny_bind (seqEpoch_at ho2 rfl (wpAny_bind (listUpdate_at ho2 rfl ?_ (Nat.zero_le _) (by rw [eo, hsz, sizeLine_eq]; omega))))
    simp only [bne_self_eq_false, Bool.false_eq_true, if_false]
    refine wpAny_pure (fin rs ts ⟨List.Perm.refl _, hl, ?_⟩ _ eo)
    rw [List.pairwise_iff_getElem]
    intro i j hi hj hij
    exfalso
    omega
  · rw [if_neg h2', if_neg h2']
    have hp2 : Paired (fun r t => TupI h2 r t ∧ t ≠ []) rs ts := by
      clear fin h
      have go : ∀ {l : List Addr} {m : List (List Int)}, Paired (fun r t => TupI s.heap r t ∧ t ≠ []) l m → (∀ r ∈ l, r ≠ a) → Paired (fun r t => TupI h2 r t ∧ t ≠ []) l m := by
        intro l m q
        induction q with
        | nil => intro _; exact .nil
        | cons hr _ ih => intro hn; exact .cons ⟨hr.1.keep fun o e => old _ o (hn _ (.head _)) e, hr.2⟩ (ih fun r hr' => hn r (.tail _ hr'))
      exact go hp fun r hr z => hna (z ▸ hr)
    refine wpAny_bind (kind_tups (s := { s with heap := h2 }) (by omega) hp2 fun b => ?_)
    have ask : (kas_sort (rs.map Value.ref).length).kasWp (kas_ask prog w A (tuples' b) (rs.map Value.ref)) (fun p s' => s' = { s with heap := h2 } ∧ PB rs.length p ∧ Up (O := lexO) (fun i => ts.getD i []) p rs.length) { s with heap := h2 } := by
      rw [List.length_map]
      refine Wp.kas (N := rs.length) (lt := ltK (O := lexO) fun i => ts.getD i []) (Q := fun p => PB rs.length p ∧ Up (O := lexO) (fun i => ts.getD i []) p rs.length) (fun i j C hi hj hC => ?_) (fun p hq => ⟨rfl, hq⟩) _ (sort_wp (by omega) fun p a b => ⟨a, b⟩)
      have key : ∀ k, k < rs.length → TupI h2 (rs.getD k 0) (ts.getD k []) := fun k hk => by
        have er : rs[k]? = some (rs.getD k 0) := by simp [hk]
        obtain ⟨t, et, ht, _⟩ := pair_at hp2 er
        have : ts.getD k [] = t := by simp [et]
        rw [this]
        exact ht
      show wpAny (model prog w) A (keyLt' (tuples' b) ((rs.map Value.ref).getD i Value.none) ((rs.map Value.ref).getD j Value.none)) C (fun _ _ => False) { s with heap := h2 }
      rw [refs_getD rs hi, refs_getD rs hj]
      exact lt_tups (s := { s with heap := h2 }) (key i hi) (key j hj) hC
    have run := kat_run (E := E) (vs := rs.map Value.ref) (ks := rs.map Value.ref)
      (Q := fun st' s' => ∃ p : Array Nat, arrOf st' = p.map (kas_item ((rs.map Value.ref).toArray.zip (rs.map Value.ref).toArray)) ∧ failedOf st' = none ∧ s' = { s with heap := h2 } ∧ PB rs.length p ∧ Up (O := lexO) (fun i => ts.getD i []) p rs.length)
      rfl (by rw [List.length_map]; omega) (by rw [List.length_map]; exact h64) (fun p' st' s' _ a2 a3 a4 => ⟨p', a2, a3, a4⟩) ask
    refine wpAny_bind (wpAny_mono run ?_ fun _ _ e => e)
    rintro ⟨⟨⟩, st'⟩ s' ⟨p, har, hf, rfl, hpb, hup⟩
    dsimp only
    have hS := sorted_of hl hpb hup
    have eo : (arrOf st').map (fun x => x.2) = ((p.toList.map fun i => rs.getD i 0).map Value.ref).toArray := by
      refine (kat_snds (vs := rs.map Value.ref) (ks := rs.map Value.ref) rfl har).trans ?_
      congr 1
      rw [List.map_map]
      refine List.map_congr_left fun i hi => ?_
      have hi' : i < rs.length := by
        have hm : i ∈ (List.range rs.length).toArray := (Array.Perm.mem_iff hpb).mp (by simpa using hi)
        simpa using hm
      exact refs_getD rs hi'
    refine wpAny_bind (seqEpoch_at ho2 rfl (wpAny_bind (listUpdate_at ho2 rfl ?_ (Nat.zero_le _) ?_)))
    · rw [hf]
      simp only [bne_self_eq_false, Bool.false_eq_true, if_false]
      exact wpAny_pure (fin _ _ hS _ eo)
    · show ((arrOf st').map (fun x => x.2)).size ≤ _
      rw [eo, List.size_toArray, List.length_map, List.length_map, Array.length_toList, hpb.size, sizeLine_eq]
      omega
end
end Sx

/-! ### the keys of a dict, whatever they are, one after another -/
namespace Sx
open PySem PySem.W PySem.Calls PyProof.Rows
/-- a plain dict with these entries stands at d -/
def DictE (h : Heap) (d : Addr) (es : Array DictEntry) (ep : Nat) : Prop := ∃ o, h.get? d = some o ∧ o.ExactDict ∧ o.data = .dict es ep
section
variable {prog : Program} {w : World} {A : Around} {E : Value → Shared → Prop} {s : Shared} {d it : Addr} {es : Array DictEntry} {ep i : Nat}
end
end Sx

/-! ### sorted(..) of a list of tuples of ints, of a dict whose keys are such -/
namespace L2
open PySem PySem.Spec PyProof.Rows
/-- tuples of ints, none empty -/
abbrev TupsH (H : Hp) (rs : List Addr) (ts : List (List Int)) : Prop := Paired (fun r t => H r = some (.tup (t.map V.int)) ∧ t ≠ []) rs ts
section
variable {X : Cx} {pins : List (Addr × Obj)} {σ : St} {H : Hp} {s : Shared}
theorem Inv.tupI (I : Inv X pins σ H s) {r : Addr} {t : List Int} (e : H r = some (.tup (t.map V.int))) : Sx.TupI s.heap r t := by
  obtain ⟨_, its, rv, o, h1, h2, n, h3⟩ := (show ObjOk X.prog X.w H s.heap r (.tup (t.map V.int)) from I.hok r _ e)
  exact ⟨o, its.toArray, n, h1, h2, h3, by simpa using intsAre_of rv⟩
theorem Inv.tupsI (I : Inv X pins σ H s) : ∀ {rs : List Addr} {ts : List (List Int)}, TupsH H rs ts → Paired (fun r t => Sx.TupI s.heap r t ∧ t ≠ []) rs ts
  | _, _, .nil => .nil
  | _, _, .cons h t => .cons ⟨I.tupI h.1, h.2⟩ (I.tupsI t)
theorem vals_refs : ∀ (rs : List Addr), Vals (rs.map V.ref) (rs.map Value.ref)
  | [] => .nil
  | _ :: r => .cons rfl (vals_refs r)
theorem refs_of : ∀ {rs : List Addr} {us : List Value}, Vals (rs.map V.ref) us → us = rs.map Value.ref
  | [], _, h => by rw [List.map_nil] at h; cases h; rfl
  | r :: rs, _, h => by
    rw [List.map_cons] at h
    cases h with
    | cons h1 h2 => rw [refs_of h2, List.map_cons]; cases h1; rfl
/-- behind the copy: a new list of the tuples is sorted -/
theorem sort_new {A : Around} {E : Value → Shared → Prop} {Q : Value → Shared → Prop} {rs : List Addr} {ts : List (List Int)} {h1 : Heap} {tk : Nat} (I : Inv X pins σ H s) (k1 : ∀ b o, s.heap.get? b = some o → h1.get? b = some o)
    (hp : TupsH H rs ts) (h64 : rs.length < 64) (h : ∀ rs' ts' s' p, Sx.Sorted rs ts rs' ts' → H p = none → Inv X pins σ (upd H p (.lst (rs'.map V.ref))) s' → Q (.ref p) s') :
    wpAny (model X.prog X.w) A (newList (rs.map Value.ref)) (fun l s' => wpAny (model X.prog X.w) A (call (.builtin "list.sort") [l]) (fun _ s'' => Q l s'') E s') E { s with heap := h1, toks := tk } := by
  have I1 : Inv X pins σ H { s with heap := h1, toks := tk } := I.kept k1
  refine wpAny_newList ?_ (by rw [List.length_map, sizeLine_eq]; omega)
  have ho : (h1.push { cls := .type "list", data := .seq (rs.map Value.ref).toArray }).get? h1.objs.size = some (seqObj "list" (rs.map Value.ref).toArray 0) := Heap.get?_push_size _ rfl
  have hfr : H h1.objs.size = none := I1.hok.fresh (Nat.le_refl _)
  have hne : h1.objs.size ∉ rs := fun hm => by
    obtain ⟨i, hi, e⟩ := List.getElem_of_mem hm
    obtain ⟨t, _, q, _⟩ := Sx.pair_at (i := i) (a := h1.objs.size) hp (by rw [← e]; simp [hi])
    rw [hfr] at q; cases q
  have I2 : Inv X pins σ H { s with heap := h1.push { cls := .type "list", data := .seq (rs.map Value.ref).toArray }, toks := tk } := I1.kept fun b o e => Heap.get?_push_of_some _ e
  refine wpAny_call_entry slot_list_sort ⟨_, ho, rfl⟩ entry_list_sort (Sx.sort_tree (s := { s with heap := h1.push { cls := .type "list", data := .seq (rs.map Value.ref).toArray }, toks := tk }) ho h64 (I2.tupsI hp) hne fun rs' ts' h' c hS hk hl => ⟨_, rfl, ?_⟩) (args_list_sort _)
  refine h rs' ts' _ h1.objs.size hS hfr (I1.laid (a := h1.objs.size) (fun b o e => hk b o (Nat.ne_of_lt (Heap.lt_size e)) (Heap.get?_push_of_some _ e)) (Nat.le_refl _) ?_)
  have hlen : rs'.length = rs.length := by
    have e := hS.perm.length_eq
    have e2 := hS.len
    have e3 := Paired.length hp
    simp only [List.length_zip] at e
    omega
  exact ⟨by rw [List.length_map, sizeLine_eq]; omega, rs'.map Value.ref, c, vals_refs rs', hl⟩
end
section
variable {X : Cx}
theorem call_sortedL : CallR X (.builtin "sorted") (fun xs H Q => ∃ a rs ts, xs = [.ref a] ∧ SqL X.K H a (rs.map V.ref) ∧ rs.length < 64 ∧ TupsH H rs ts ∧
    ∀ rs' ts' p, Sx.Sorted rs ts rs' ts' → H p = none → Q (.ref p) (upd H p (.lst (rs'.map V.ref)))) := by
  intro pins s σ H xs us Q I r h
  obtain ⟨a, rs, ts, rfl, hq, h64, hp, q⟩ := h
  obtain ⟨u, rfl, ru⟩ := vals1 r
  cases ru
  obtain ⟨its, rv, pl, hz⟩ := I.list hq
  have ei := refs_of rv
  subst ei
  refine Calls.call_function_entry kind_sorted plain_sorted entry_sorted (args_sorted1 _) ?_
  unfold Builtin.«sorted»
  refine wpAny_bind (m := checkCount "sorted" 1 1 _) (wpAny_pure (wpAny_bind (collect_list pl.isList ?_ (by rw [List.length_map, sizeLine_eq]; omega))))
  have fin := sort_new (A := X.A.in1) (E := X.xe) (Q := fun v s' => EP X pins σ Q v s') (h1 := (s.heap.push (seqObj "list" #[] 0)).update s.heap.objs.size (Obj.mapSeq (· ++ (rs.map Value.ref).toArray))) (tk := s.toks) I (fun b o e =>
    ((Heap.SameBut.update _ _ _).2 b (Nat.ne_of_lt (Heap.lt_size e))).trans (Heap.get?_push_of_some _ e)) hp h64 fun rs' ts' s' p hS hf I' => ⟨.ref p, _, I', rfl, q rs' ts' p hS hf⟩
  refine wpAny_bind (wpAny_mono fin (fun l s' hl => wpAny_bind (wpAny_holding (wpAny_mono hl (fun _ s'' hq' => wpAny_pure ⟨_, rfl, hq'⟩) fun _ _ e => e))) fun _ _ e => e)
end
end L2

/-! ### the mathematics: a list of ties looked through, sorted lists -/
namespace Mt
def lo (a b : Int) : Int := if b < a then b else a
def hi (a b : Int) : Int := if b > a then b else a
abbrev Tri := Int × Int × Int
/-- an end is no point, or both are alike -/
def bad (m a b : Int) : Prop := a < 0 ∨ m ≤ a ∨ b < 0 ∨ m ≤ b ∨ a = b
instance (m a b : Int) : Decidable (bad m a b) := by unfold bad; infer_instance
def tri (t : Tri) : List Int := [t.1, t.2.1, t.2.2]
/-- the tie's ends, the lesser first, and its weight -/
def key (t : Tri) : List Int := [lo t.1 t.2.1, hi t.1 t.2.1]
def row (t : Tri) : List Int := key t ++ [t.2.2]
inductive Res | bad | twice | good
  deriving DecidableEq
/-- what becomes of a list of ties: seen are the keys ahead -/
def scan (m : Int) : List Tri → List (List Int) → Res
  | [], _ => .good
  | t :: r, seen => if bad m t.1 t.2.1 then .bad else if seen.any (fun k => decide (k = key t)) = true then .twice else scan m r (seen ++ [key t])
theorem scan_cons (m : Int) (t : Tri) (r : List Tri) (seen : List (List Int)) : scan m (t :: r) seen = if bad m t.1 t.2.1 then .bad else if seen.any (fun k => decide (k = key t)) = true then .twice else scan m r (seen ++ [key t]) := rfl

theorem perm_sorted_eq {α : Type} {R : α → α → Prop} (anti : ∀ a b, R a b → R b a → a = b) : ∀ {l m : List α}, l.Perm m → l.Pairwise R → m.Pairwise R → l = m
  | [], m, h, _, _ => by rw [List.nil_perm.mp h]
  | a :: l, [], h, _, _ => by have := h.length_eq; simp at this
  | a :: l, b :: m, h, hl, hm => by
    rw [List.pairwise_cons] at hl hm
    have e : a = b := by
      have ha : a ∈ b :: m := h.mem_iff.mp (.head _)
      have hb : b ∈ a :: l := h.mem_iff.mpr (.head _)
      rcases List.mem_cons.mp ha with e | ha
      · exact e
      · rcases List.mem_cons.mp hb with e | hb
        · exact e.symm
        · exact anti a b (hl.1 b hb) (hm.1 a ha)
    subst e
    rw [perm_sorted_eq anti (List.Perm.cons_inv h) hl.2 hm.2]
/-- sorted lists of the same tuples are alike -/
theorem sorted_eq {l m : List (List Int)} (h : l.Perm m) (hl : l.Pairwise fun a b => HT.lexLt b a = false) (hm : m.Pairwise fun a b => HT.lexLt b a = false) : l = m :=
  perm_sorted_eq (fun a b h1 h2 => (Sx.lex_tot b a h1 h2).symm) h hl hm
end Mt

/-! ### list comprehensions of one clause -/
namespace L2
open PySem PySem.Spec PyProof.Rows

/-- the block of a comprehension: its own names, then the captured ones -/
def Xc (X : Cx) (pins : List (Addr × Obj)) (scope : Scope) (cl : List (Str × Addr)) (C : Addr) (N : List Str) (s : Shared) (H : Hp) (fp : List Addr) : Cx where
  prog := X.prog
  w := X.w
  K := X.K
  mg := X.mg
  base := X.base
  A := X.A
  N := N
  s₀ := s
  H₀ := H
  env := compEnvC scope cl C X.env
  outer := X.stack
  stack := X.stack
  ex := fp
  fn := fun x => (cl.lookup x).isNone
  calm := X.calm
  pn := X.pn ++ pins
  xe := fun _ _ => False

/-- the values at the block's entry: own names none, then those of the slots js -/
def σC (own : Nat) (js : List Nat) (σ : St) : St := List.replicate own none ++ js.map fun j => (σ[j]?).getD none

/-- what the reader must know of the text: the closure's cells, the captured names -/
structure Caps (X : Cx) (scope : Scope) (cl : List (Str × Addr)) (own caps : List Str) (js : List Nat) : Prop where
  clos : closureFor scope X.env = pure cl
  sub : ∀ x c, cl.lookup x = some c → X.env.cells.lookup x = some c
  kind : scope.kind = .function
  nocell : ∀ y ∈ scope.names, y.2 ≠ .cell
  names : ∀ y ∈ scope.names, y.2 = .local → scope.names.lookup y.1 = some .local
  has : ∀ x, ((relabel scope X.env).names.lookup x = some .cell ∨ (relabel scope X.env).names.lookup x = some .free) → ∃ c, cl.lookup x = some c
  capl : caps.length = js.length
  cap : ∀ (i : Nat) (x : Str), caps[i]? = some x → ∃ j : Nat, js[i]? = some j ∧ X.N[j]? = some x ∧ X.env.scope.names.lookup x = some .cell ∧ (cl.lookup x).isSome = true ∧ (relabel scope X.env).names.lookup x = some .cell

section
variable {X : Cx} {pins : List (Addr × Obj)} {σ : St} {H : Hp} {s : Shared} {scope : Scope} {cl : List (Str × Addr)} {own caps : List Str} {js : List Nat}

theorem Inv.offC {C : Addr} {h' : Heap} {t' : Nat} (I : Inv X pins σ H s) (f : FpOk X pins H C) (hs : Heap.SameBut C s.heap h') : Inv X pins σ H { s with heap := h', toks := t' } := by
  obtain ⟨f0, f1, f2, f3, f4, f5⟩ := f
  exact I.turned (fun b o hb e => (hs.2 b hb).trans e) f0 f1 f3 f4 f5

/-- the block's context is sound -/
theorem xc_ok {fp : List Addr} {C : Addr} {H1 : Hp} (I : Inv X pins σ H1 s) (K : Caps X scope cl own caps js) (hC : s.heap.objs.size ≤ C) (hf : ∀ b ∈ fp, FpOk X pins H1 b) (ho : ∀ b ∈ fp, ∃ o, s.heap.get? b = some o) :
    (Xc X pins scope cl C (own ++ caps) s H1 fp).Ok := by
  refine ⟨I.ok.mod, K.kind, I.ok.glob, I.ok.blt, hC, fun x y c h1 h2 => I.ok.inj x y c (K.sub x c h1) (K.sub y c h2), fun x hx => K.has x hx, fun x c h1 h2 => ?_, I.ok.hd, I.ok.frames, .inl rfl, fun b hb => ?_, I.bs, Nat.le_trans I.ok.bsz I.sz, fun b o e hb => ?_, fun b hb hm => ?_, I.stack, I.stkFree⟩
  · have h1 : (cl.lookup x).isNone = true := h1
    have h2 : cl.lookup x = some c := h2
    rw [h2] at h1; cases h1
  · obtain ⟨o, e⟩ := ho b hb
    refine ⟨fun z => ?_, fun x c h z => (hf b hb).2.2.2.2.1 x c (K.sub x c h) z⟩
    have : b < C := Nat.lt_of_lt_of_le (Heap.lt_size e) hC
    rw [z] at this
    exact absurd this (Nat.lt_irrefl _)
  · rcases (hf b hb).2.2.2.1 with z | z
    · exact I.ok.noex b o e z
    · exact absurd (Nat.lt_of_lt_of_le (Heap.lt_size e) (Nat.le_trans I.ok.bsz z)) (Nat.lt_irrefl _)
  · rcases List.mem_cons.mp (I.stkSub b hm) with z | z
    · exact (hf b hb).2.1 z
    · exact (hf b hb).2.2.1 z
/-- the block's state at its entry -/
theorem xc_inv {fp : List Addr} {D C : Addr} {H1 : Hp} {s4 : Shared} {mC : Str → Option Value} (I : Inv X pins σ H1 s) (K : Caps X scope cl own caps js) (hC : s.heap.objs.size ≤ C) (hD : s.heap.objs.size ≤ D) (hDC : D ≠ C)
    (hf : ∀ b ∈ fp, FpOk X pins H1 b) (ho : ∀ b ∈ fp, ∃ o, s.heap.get? b = some o) (h4 : ∃ h' tk, s4 = { s with heap := h', toks := tk }) (k4 : ∀ b o, s.heap.get? b = some o → s4.heap.get? b = some o) (hn : s4.heap.Ns C mC)
    (hl : s4.heap.get? D = some { cls := .type "list", data := .seq #[] 0 }) : Inv (Xc X pins scope cl C (own ++ caps) s H1 fp) [] (σC own.length js σ) (upd H1 D (.lst [])) s4 := by
  obtain ⟨h', tk, rfl⟩ := h4
  have hfr : H1 D = none := I.hok.fresh hD
  have hlen : (σC own.length js σ).length = (own ++ caps).length := by
    unfold σC
    rw [List.length_append, List.length_append, List.length_replicate, List.length_map, K.capl]
  have celK : ∀ c v, s.heap.IsCell c v → h'.IsCell c v := fun c v ⟨o, e, d⟩ => ⟨o, k4 c o e, d⟩
  have cold : ∀ x c, cl.lookup x = some c → c < s.heap.objs.size := fun x c e => by
    obtain ⟨v, z⟩ := I.cell x c (K.sub x c e)
    exact z.lt
  refine ⟨xc_ok I K hC hf ho, rfl, I.bare, Un.laid k4 hD hfr, ⟨mC, hn, fun i x v e1 e2 e3 => ?_⟩, fun x c e => ?_, ?_, fun x c e => ?_, fun p hp => ?_, I.hok.laid k4 hD ?_, hlen⟩
  · have hi : own.length ≤ i := by
      by_cases hi : i < own.length
      · exfalso
        unfold σC at e2
        rw [List.getElem?_append_left (by rw [List.length_replicate]; exact hi), List.getElem?_replicate, if_pos hi] at e2
        cases e2
      · omega
    obtain ⟨k, rfl⟩ : ∃ k, i = own.length + k := ⟨i - own.length, by omega⟩
    have e1 : (own ++ caps)[own.length + k]? = some x := e1
    rw [List.getElem?_append_right (by omega), Nat.add_sub_cancel_left] at e1
    obtain ⟨j, j1, j2, j3, j4, j5⟩ := K.cap k x e1
    unfold σC at e2
    rw [List.getElem?_append_right (by rw [List.length_replicate]; omega), List.length_replicate, Nat.add_sub_cancel_left, List.getElem?_map, j1] at e2
    have e2 : (σ[j]?).getD none = some v := Option.some.inj e2
    have e4 : σ[j]? = some (some v) := by
      cases q : σ[j]? with
      | none => rw [q] at e2; cases e2
      | some y => rw [q] at e2; exact congrArg some e2
    obtain ⟨m, _, hl'⟩ := I.loc
    obtain ⟨u, ru, lk⟩ := hl' j x v j2 e4 (.inr (.inl j3))
    refine ⟨u, ru, ?_⟩
    rcases lk with ⟨hk, _⟩ | ⟨_, c, hc, hcell⟩
    · have hk : X.env.scope.names.lookup x = some .local := hk
      rw [j3] at hk; cases hk
    · obtain ⟨c', hc'⟩ := Option.isSome_iff_exists.mp j4
      have := K.sub x c' hc'
      rw [hc] at this; cases this
      exact .inr ⟨.inl j5, c, hc', celK _ _ hcell⟩
  · obtain ⟨v, z⟩ := I.cell x c (K.sub x c e)
    exact ⟨v, celK _ _ z⟩
  · show upd H1 D (.lst []) C = none
    rw [upd_ne (Ne.symm hDC)]
    exact I.hok.fresh hC
  · rw [upd_ne (Nat.ne_of_lt (Nat.lt_of_lt_of_le (cold x c e) hD))]
    exact I.freeC x c (K.sub x c e)
  · have hp : p ∈ X.pn ++ pins := by
      have : p ∈ (X.pn ++ pins) ++ [] := hp
      simpa using this
    obtain ⟨e, n, ne, nf, d⟩ := I.pin p hp
    have hlt := Heap.lt_size e
    refine ⟨k4 _ _ e, by rw [upd_ne (Nat.ne_of_lt (Nat.lt_of_lt_of_le hlt hD))]; exact n, Nat.ne_of_lt (Nat.lt_of_lt_of_le hlt hC), fun hm => ?_, d⟩
    rcases List.mem_cons.mp (I.stkSub _ hm) with z | z
    · exact ne z
    · exact nf z
  · exact ⟨Nat.zero_le _, [], 0, .nil, hl⟩
/-- behind the block -/
theorem xc_back {fp : List Addr} {C : Addr} {N : List Str} {H1 H' : Hp} {σ' : St} {pl : List (Addr × Obj)} {s' : Shared} (I : Inv X pins σ H1 s) (hf : ∀ b ∈ fp, FpOk X pins H1 b) (J : Inv (Xc X pins scope cl C N s H1 fp) pl σ' H' s') : Inv X pins σ H' s' :=
  I.call' J.os J.base J.hok J.bare fun b hb => ⟨(hf b hb).2.2.2.1, (hf b hb).2.1, (hf b hb).2.2.2.2.1, (hf b hb).2.2.2.2.2⟩
end

/-- a turn: the target, the tests, the element; W is the invariant: turn, measure, items so far, names, heap -/
def tTurns (J : It) (g : TG) (tt : TT) (te : TE) (σ0 : St) (D : Addr) (Qd : Hp → Prop) (H1 : Hp) : Prop :=
  ∃ W : Nat → Nat → List V → St → Hp → Prop, (∃ m, W 0 m [] σ0 (upd H1 D (.lst []))) ∧ ∀ i m ys σ1 H2, W i m ys σ1 H2 → H2 D = some (.lst ys) ∧
    ((J.stop i H2 ∧ Qd H2) ∨ (J.go i H2 ∧ ys.length < sizeLine ∧ ∀ x H3, J.yld i H2 x H3 → g x σ1 H3 fun σ2 H4 => tt σ2 H4 fun c H5 =>
      if c = true then te σ2 H5 fun y H6 => H6 D = some (.lst ys) ∧ ∃ m', m' < m ∧ W (i + 1) m' (ys ++ [y]) σ2 (upd H6 D (.lst (ys ++ [y]))) else ∃ m', m' < m ∧ W (i + 1) m' ys σ2 H5))
/-- the tests of a clause -/
def PTs (X : Cx) (ifs : List Expr) (t : TT) : Prop :=
  ∀ (pins : List (Addr × Obj)) (s : Shared) (σ : St) (H : Hp) (Q : Bool → Hp → Prop), Inv X pins σ H s → t σ H Q →
    wpAny (model X.prog X.w) X.A (forIn ifs true fun c r => if r = true then do let ok ← isTrue c X.env (eval c X.env); pure (ForInStep.yield ok) else pure (ForInStep.yield r)) (TP X pins σ Q) X.xe s
def tYes : TT := fun _ H Q => Q true H
theorem pts_nil {X : Cx} : PTs X [] tYes := fun _ _ _ H _ I h => wpAny_tests_nil ⟨H, I, h⟩
theorem pts_one {X : Cx} {c : Expr} {t : TT} (h : PT X c t) : PTs X [c] t := fun pins s σ H Q I hw => wpAny_tests_one (h pins s σ H Q I hw)

section
variable {X : Cx} {pins : List (Addr × Obj)} {σ : St} {H : Hp} {s : Shared} {scope : Scope} {cl : List (Str × Addr)} {own caps : List Str} {js : List Nat}
variable {tg iter elt : Expr} {ifs : List Expr} {pos : Pos} {g : TG} {tt : TT} {te : TE}
/-- the turns of a comprehension -/
theorem comp_loop {J : It} {fp : List Addr} {it D C : Addr} {tn : Nat → Heap → Prop} {H1 : Hp} {σ0 : St} {Qd : Hp → Prop} {RR : Result → Shared → Prop} {s4 : Shared}
    (hc : X.calm = true) (T : Turn X.prog X.w X.K tg J fp it tn)
    (hg : PG (Xc X pins scope cl C (own ++ caps) s H1 fp) tg g) (ht : PTs (Xc X pins scope cl C (own ++ caps) s H1 fp) ifs tt) (he : PE (Xc X pins scope cl C (own ++ caps) s H1 fp) elt te)
    (hf : ∀ b ∈ fp, FpOk X pins H1 b)
    (J0 : Inv (Xc X pins scope cl C (own ++ caps) s H1 fp) [] σ0 (upd H1 D (.lst [])) s4) (st0 : tn 0 s4.heap) (hfD : ∀ b ∈ fp, b ≠ D)
    (turns : tTurns J g tt te σ0 D Qd H1)
    (fin : ∀ σ' H' s', Inv (Xc X pins scope cl C (own ++ caps) s H1 fp) [] σ' H' s' → Qd H' → RR (.ok .next) s') :
    codeAny (model X.prog X.w) X.A (.compLoop (.ListComp elt [⟨tg, iter, ifs, 0⟩] scope pos) 0 (.ref it) (.ref D) (compEnvC scope cl C X.env)) RR s4 := by
  obtain ⟨W, ⟨m0, w0⟩, turn⟩ := turns
  have stat : ∀ {H' : Hp}, (∀ b ∈ fp, H' b = none) → ∀ b ∈ fp, FpOk (Xc X pins scope cl C (own ++ caps) s H1 fp) [] H' b := fun {H'} hn b hb => by
    refine ⟨hn b hb, (J0.ok.exf b hb).1, J0.ok.exfs b hb, .inl hb, fun x c e => (J0.ok.exf b hb).2 x c e, fun p hp => ?_⟩
    have hp : p ∈ X.pn ++ pins := by
      have : p ∈ (X.pn ++ pins) ++ [] := hp
      simpa using this
    exact (hf b hb).2.2.2.2.2 p hp
  refine codeAny_loop rfl (fun n s' => ∃ i ys σ' H', Inv (Xc X pins scope cl C (own ++ caps) s H1 fp) [] σ' H' s' ∧ tn i s'.heap ∧ (∀ b ∈ fp, H' b = none) ∧ W i n ys σ' H') (fun n s' hI => ?_) m0
    ⟨0, [], _, _, J0, st0, fun b hb => by rw [upd_ne (hfD b hb)]; exact (hf b hb).1, w0⟩
  obtain ⟨i, ys, σ2, H2, I2, st, fr, w2⟩ := hI
  show wpAny _ X.A ((compTurn (.ListComp elt [⟨tg, iter, ifs, 0⟩] scope pos) 0 (.ref it) (.ref D) (compEnvC scope cl C X.env)).onRaise (fun x => do noteFrame x (compEnvC scope cl C X.env); theTreesLotGoes x)) _ _ s'
  refine wpAny_noted (wpAny_noRaise ?_)
  rw [compTurn_list]
  obtain ⟨hD, alt⟩ := turn i n ys σ2 H2 w2
  rcases alt with ⟨stop, qd⟩ | ⟨go, hz, step⟩
  · refine wpAny_bind (wpAny_standAt (wpAny_bind (thn (T.done (Xc X pins scope cl C (own ++ caps) s H1 fp) rfl rfl rfl hc i [] s' σ2 H2 (fun _ _ => False) I2 (stat fr) st stop) fun r s5 ⟨hr, I5⟩ => ?_)))
    subst hr
    exact wpAny_pure (fin _ _ _ I5 qd)
  · refine wpAny_bind (wpAny_standAt (wpAny_bind (thn (T.item (Xc X pins scope cl C (own ++ caps) s H1 fp) rfl rfl rfl hc i [] s' σ2 H2 (fun _ _ => False) I2 (stat fr) st go) fun r s5 ⟨u, hr, h5⟩ => ?_)))
    subst hr
    refine wpAny_bind (thn h5 fun _ s6 ⟨x, H6, I6, r6, y6, st6, fr6⟩ => ?_)
    have I6' := I6.pinned (stat fr6) (T.obj _ _ st6)
    refine wpAny_bind (thn (hg _ s6 σ2 H6 x u _ I6' r6 (step x H6 y6)) fun _ s7 ⟨σ7, H7, I7, q7⟩ => ?_)
    refine wpAny_bind (thn (ht _ s7 σ7 H7 _ I7 q7) fun ok s8 ⟨H8, I8, q8⟩ => ?_)
    have again : ∀ {H9 : Hp} {ys' : List V} {m : Nat} {s9 : Shared}, Inv (Xc X pins scope cl C (own ++ caps) s H1 fp) ([] ++ pinsAt fp s6.heap) σ7 H9 s9 → m < n → W (i + 1) m ys' σ7 H9 →
        ∃ m, m < n ∧ ∃ i ys σ' H', Inv (Xc X pins scope cl C (own ++ caps) s H1 fp) [] σ' H' s9 ∧ tn i s9.heap ∧ (∀ b ∈ fp, H' b = none) ∧ W i m ys σ' H' := fun {H9 ys' m s9} I9 hm w9 => by
      refine ⟨m, hm, i + 1, ys', σ7, H9, I9.unpinned, T.keep _ _ _ st6 fun b hb o e => (I9.pin (b, o) (List.mem_append_right _ (List.mem_append_right _ (mem_pinsAt hb e)))).1, fun b hb => ?_, w9⟩
      obtain ⟨o, e, _⟩ := T.obj _ _ st6 b hb
      exact (I9.pin (b, o) (List.mem_append_right _ (List.mem_append_right _ (mem_pinsAt hb e)))).2.1
    cases ok with
    | false =>
      rw [if_neg Bool.false_ne_true] at q8
      obtain ⟨m, hm, w8⟩ := q8
      exact wpAny_pure ⟨rfl, again I8 hm w8⟩
    | true =>
      rw [if_pos rfl] at q8
      refine wpAny_bind (wpAny_bind (thn (he _ s8 σ7 H8 _ I8 q8) fun y s9 ⟨yv, H9, I9, r9, hD9, m, hm, w9⟩ => ?_))
      refine wpAny_bind (thn (mt_append _ s9 σ7 H9 (.ref D) [yv] (.ref D) [y] (fun _ H10 => H10 = upd H9 D (.lst (ys ++ [yv]))) I9 rfl (.cons r9 .nil) ⟨D, ys, yv, rfl, rfl, hD9, hz, rfl⟩) fun _ s10 ⟨_, H10, I10, _, e10⟩ => ?_)
      subst e10
      exact wpAny_pure (wpAny_pure ⟨rfl, again I10 hm w9⟩)
/-- the block: the new list, the block's names, the turns -/
theorem comp_block {J : It} {fp : List Addr} {it : Addr} {tn : Nat → Heap → Prop} {H1 : Hp} {Qd : Addr → Hp → Prop} {RR : Value → Addr → Result → Shared → Prop} {E : Value → Shared → Prop}
    (hc : X.calm = true) (I : Inv X pins σ H1 s) (K : Caps X scope cl own caps js) (T : Turn X.prog X.w X.K tg J fp it tn) (st0 : tn 0 s.heap) (hf : ∀ b ∈ fp, FpOk X pins H1 b)
    (hg : ∀ C, PG (Xc X pins scope cl C (own ++ caps) s H1 fp) tg g) (ht : ∀ C, PTs (Xc X pins scope cl C (own ++ caps) s H1 fp) ifs tt) (he : ∀ C, PE (Xc X pins scope cl C (own ++ caps) s H1 fp) elt te)
    (turns : ∀ D, H1 D = none → tTurns J g tt te (σC own.length js σ) D (Qd D) H1)
    (fin : ∀ D C H' s', Inv X pins σ H' s' → FpOk X pins H' C → (∃ m, s'.heap.Ns C m) → Qd D H' → RR (.ref D) C (.ok .next) s') :
    wpAny (model X.prog X.w) X.A (newList []) (fun acc s₃ => wpAny (model X.prog X.w) X.A (newFunctionEnv scope X.env.globals cl [] X.env.qual none .none (some X.env)) (fun cenv s₄ =>
      codeAny (model X.prog X.w) X.A (.compStart (.ListComp elt [⟨tg, iter, ifs, 0⟩] scope pos) 0 (.ref it) acc { cenv with scope := relabel scope X.env }) (RR acc cenv.locals) s₄) E s₃) E s := by
  have hold : ∀ b ∈ fp, ∃ o, s.heap.get? b = some o := fun b hb => let ⟨o, e, _⟩ := T.obj 0 _ st0 b hb; ⟨o, e⟩
  refine wpAny_newObj_type (wpAny_newFunctionEnv K.nocell (by intro y hy; simp at hy) (fun h₁ hns₁ hsb₁ => ?_) K.kind)
  dsimp only at hns₁ hsb₁ ⊢
  generalize hH2 : s.heap.push { cls := .type "list", dict := none, data := .seq ([] : List Value).toArray } = H2 at hns₁ hsb₁ ⊢
  have hsz : H2.objs.size = s.heap.objs.size + 1 := by rw [← hH2, Heap.size_push]
  have k4 : ∀ b o, s.heap.get? b = some o → h₁.get? b = some o := fun b o e => by
    have hlt := Heap.lt_size e
    refine (hsb₁.2 b (Nat.ne_of_lt (hsz ▸ Nat.lt_succ_of_lt hlt))).trans (Heap.get?_push_of_some _ ?_)
    rw [← hH2]
    exact Heap.get?_push_of_some _ e
  have hlist : h₁.get? s.heap.objs.size = some { cls := .type "list", data := .seq #[] 0 } := by
    refine (hsb₁.2 _ (Nat.ne_of_lt (hsz ▸ Nat.lt_succ_self _))).trans (Heap.get?_push_of_some _ ?_)
    rw [← hH2]
    exact Heap.get?_push_size _ rfl
  have hfr : H1 s.heap.objs.size = none := I.hok.fresh (Nat.le_refl _)
  have J0 := xc_inv (C := H2.objs.size) (D := s.heap.objs.size) (s4 := { s with heap := h₁, toks := s.toks + ([] : List (Str × Value)).length }) I K (hsz ▸ Nat.le_succ _) (Nat.le_refl _) (Nat.ne_of_lt (hsz ▸ Nat.lt_succ_self _)) hf hold ⟨_, _, rfl⟩ k4 hns₁ hlist
  have hfD : ∀ b ∈ fp, b ≠ s.heap.objs.size := fun b hb z => by
    obtain ⟨o, e⟩ := hold b hb
    have hlt := Heap.lt_size e
    rw [z] at hlt
    exact absurd hlt (Nat.lt_irrefl _)
  have st1 : tn 0 h₁ := T.keep 0 _ _ st0 fun b hb o e => k4 b o e
  have loop : ∀ s₃ : Shared, s₃ = { s with heap := h₁, toks := s.toks + ([] : List (Str × Value)).length } →
      codeAny (model X.prog X.w) X.A (.compLoop (.ListComp elt [⟨tg, iter, ifs, 0⟩] scope pos) 0 (.ref it) (.ref s.heap.objs.size) (compEnvC scope cl H2.objs.size X.env)) (RR (.ref s.heap.objs.size) H2.objs.size) s₃ := by
    rintro s₃ rfl
    refine comp_loop hc T (hg _) (ht _) (he _) hf J0 st1 hfD (turns _ hfr) fun σ' H' s' J' qd => ?_
    have hC : H' H2.objs.size = none := J'.free
    obtain ⟨m, hn, _⟩ := J'.loc
    exact fin _ _ _ _ (xc_back I hf J') (I.fpOk (by omega) hC) ⟨m, hn⟩ qd
  exact codeAny_compStart_list (loop _ rfl) (T.self _ 0 _ _ _ st1 (loop _ rfl))

/-- [elt for tg in iter if ..] -/
def tComp (wi : TI) (g : TG) (tt : TT) (te : TE) (own : Nat) (js : List Nat) : TE := fun σ H Q => wi σ H fun J H1 => ∀ D, H1 D = none → tTurns J g tt te (σC own js σ) D (fun H' => Q (.ref D) H') H1
theorem pe_comp {wi : TI} (hc : X.calm = true) (K : Caps X scope cl own caps js) (hi : PI X tg iter wi)
    (hg : ∀ pins C s H1 fp, PG (Xc X pins scope cl C (own ++ caps) s H1 fp) tg g) (ht : ∀ pins C s H1 fp, PTs (Xc X pins scope cl C (own ++ caps) s H1 fp) ifs tt) (he : ∀ pins C s H1 fp, PE (Xc X pins scope cl C (own ++ caps) s H1 fp) elt te)
    (hs : ∀ x, foldedSetIterable iter X.env x = pure x := by intro _; rfl) : PE X (.ListComp elt [⟨tg, iter, ifs, 0⟩] scope pos) (tComp wi g tt te own.length js) := by
  intro pins s σ H Q I h
  rw [eval_ListComp]
  refine wpAny_comprehension_free (use := none) rfl hs K.clos K.kind K.names (thn (hi pins s σ H _ I h) fun v s1 h1 => thn h1 fun itv s2 h2 => ?_)
  obtain ⟨it, fp, tn, J, H1, e, I2, T, st, f, q⟩ := h2
  subst e
  refine comp_block (Qd := fun D H' => Q (.ref D) H') (RR := fun acc C => compPost (model X.prog X.w) X.A X.xe none (EP X pins σ Q) acc C) hc I2 K T st f (fun C => hg _ C _ _ _) (fun C => ht _ C _ _ _) (fun C => he _ C _ _ _) q ?_
  intro D C H' s' I' fC ⟨m, hn⟩ qd
  exact ⟨m, hn, fun h' hs' => ⟨.ref D, H', I'.offC (t' := s'.toks) fC hs', rfl, qd⟩⟩
/-- name = [elt for tg in iter if ..] on one line: stored ahead of the block's end -/
def tCompSet (i : Nat) (wi : TI) (g : TG) (tt : TT) (te : TE) (own : Nat) (js : List Nat) : TS := fun D σ H => wi σ H fun J H1 => ∀ d, H1 d = none → tTurns J g tt te (σC own js σ) d (fun H' => D.nx (σ.set i (some (.ref d))) H') H1
theorem ps_comp {wi : TI} {i : Nat} {y : Str} {py spos : Pos} (hc : X.calm = true) (K : Caps X scope cl own caps js) (hi : PI X tg iter wi)
    (hg : ∀ pins C s H1 fp, PG (Xc X pins scope cl C (own ++ caps) s H1 fp) tg g) (ht : ∀ pins C s H1 fp, PTs (Xc X pins scope cl C (own ++ caps) s H1 fp) ifs tt) (he : ∀ pins C s H1 fp, PE (Xc X pins scope cl C (own ++ caps) s H1 fp) elt te)
    (hN : X.N.Nodup) (hy : X.N[i]? = some y) (hyl : X.env.scope.names.lookup y = some .local)
    (hsw : swapsWith (.ListComp elt [⟨tg, iter, ifs, 0⟩] scope pos) (some (.Name y py)) spos.line X.env = pure true)
    (hs : ∀ x, foldedSetIterable iter X.env x = pure x := by intro _; rfl) : PS X (.Assign [.Name y py] (.ListComp elt [⟨tg, iter, ifs, 0⟩] scope pos) spos) (tCompSet i wi g tt te own.length js) := by
  intro pins s σ H D I h
  rw [exec_Assign_Name_used _ _ _ _ hsw]
  refine wpAny_bind (wpAny_standAt (wpAny_bind ?_))
  show wpAny _ X.A (do let _ ← comprehension (.ListComp elt [⟨tg, iter, ifs, 0⟩] scope pos) scope X.env _ (newList []) false (eval iter X.env) (some (assign (.Name y py) X.env))) _ _ s
  refine wpAny_bind (thn (wpAny_comprehension_free (use := some (assign (.Name y py) X.env)) (Q := fun _ s' => SP X pins D .next s') rfl hs K.clos K.kind K.names (thn (hi pins s σ H _ I h) fun v s1 h1 => thn h1 fun itv s2 h2 => ?_)) fun _ s' hq => wpAny_pure (wpAny_pure hq))
  obtain ⟨it, fp, tn, J, H1, e, I2, T, st, f, q⟩ := h2
  subst e
  refine comp_block (Qd := fun d H' => D.nx (σ.set i (some (.ref d))) H') (RR := fun acc C => compPost (model X.prog X.w) X.A X.xe (some (assign (.Name y py) X.env)) (fun _ s' => SP X pins D .next s') acc C) hc I2 K T st f (fun C => hg _ C _ _ _) (fun C => ht _ C _ _ _) (fun C => he _ C _ _ _) q ?_
  intro d C H' s' I' fC ⟨m, hn⟩ qd
  show wpAny _ X.A (assign (.Name y py) X.env (.ref d)) _ _ _
  refine wpAny_assign_Name (store_ok2 I' hN hy (.inl hyl) (show RelV (.ref d) (.ref d) from rfl) (fun s3 I3 ⟨a, sb, ha⟩ => ?_) (.inr hyl))
  have hCa : C ≠ a := by
    rcases ha with z | z
    · rw [z]; exact fC.2.1
    · exact fun z2 => fC.2.2.2.2.1 y a z z2.symm
  exact ⟨m, hn.sameBut sb hCa, fun h' hs' => ⟨_, H', I3.offC (t' := s3.toks) fC hs', qd⟩⟩
end
end L2

/-! ### == and in, where the items are tuples of ints -/
namespace Sx
open PySem PySem.W PyProof.Rows
theorem ints_fun : ∀ {vs : List Value} {a b : List Int}, IntsAre vs a → IntsAre vs b → a = b
  | _, _, _, .nil, .nil => rfl
  | _, _, _, .cons n t h, .cons _ _ h' => by rw [ints_fun h h']
theorem ints_at : ∀ {vs : List Value} {ns : List Int} {i : Nat} {v : Value}, IntsAre vs ns → vs[i]? = some v → ∃ t, v = .int (ns.getD i 0) t
  | _, _, _, _, .nil, e => by simp at e
  | _, _, 0, _, .cons n t _, e => by simp at e; subst e; exact ⟨t, rfl⟩
  | _, _, i + 1, v, .cons n t h, e => by
    obtain ⟨t', e'⟩ := ints_at (i := i) (v := v) h (by simpa using e)
    exact ⟨t', by simpa using e'⟩
theorem all_eq : ∀ (t u : List Int), ((List.range (min t.length u.length)).all (fun j => t.getD j 0 == u.getD j 0) && t.length == u.length) = decide (t = u) := by
  intro t u
  rw [Bool.eq_iff_iff, Bool.and_eq_true, List.all_eq_true, beq_iff_eq, decide_eq_true_iff]
  constructor
  · rintro ⟨h1, h2⟩
    apply List.ext_getElem h2
    intro i hi hj
    have := h1 i (List.mem_range.mpr (by omega))
    simpa [hi, hj] using this
  · rintro rfl
    exact ⟨fun i _ => by simp, rfl⟩
theorem eqAt_tups {A : Around} {s : Shared} {a b : Addr} {t u : List Int} (ha : TupI s.heap a t) (hb : TupI s.heap b u) (hu : A.units < cLine) : SeqAt.EqAt A s (.ref a) (.ref b) (decide (t = u)) := by
  obtain ⟨oa, ia, na, ea, ca, da, pa⟩ := ha
  obtain ⟨ob, ib, nb, eb, cb, db, pb⟩ := hb
  by_cases e : a = b
  · subst e
    rw [ea] at eb
    cases eb
    rw [da] at db
    injection db with d1 _
    subst d1
    have := ints_fun pa pb
    subst this
    rw [decide_eq_true rfl]
    exact SeqAt.EqAt.same _
  · have la : ia.size = t.length := by rw [← pa.length, Array.length_toList]
    have lb : ib.size = u.length := by rw [← pb.length, Array.length_toList]
    have := SeqAt.RcAt.tuples (A := A) (s := s) (l := a) (b := b) (items := ia) (items2 := ib) (e := fun j => t.getD j 0 == u.getD j 0) ⟨oa, ea, ca, na, da⟩ ⟨ob, eb, cb, nb, db⟩ hu fun j h1 h2 => by
      obtain ⟨t1, e1⟩ := ints_at (i := j) (v := ia[j]) pa (by simp [h1])
      obtain ⟨t2, e2⟩ := ints_at (i := j) (v := ib[j]) pb (by simp [h2])
      rw [e1, e2]
      exact SeqAt.EqAt.int_int _ _ _ _
    rw [la, lb, all_eq] at this
    exact SeqAt.EqAt.of_refs e this
end Sx
namespace L2
open PySem PySem.Spec PyProof.Rows
theorem ints_inj : ∀ {a b : List Int}, a.map V.int = b.map V.int → a = b
  | [], [], _ => rfl
  | [], _ :: _, e => by simp at e
  | _ :: _, [], e => by simp at e
  | x :: xs, y :: ys, e => by
    rw [List.map_cons, List.map_cons] at e
    injection e with e1 e2
    injection e1 with e1
    rw [e1, ints_inj e2]
section
variable {X : Cx}
open Classical in
/-- does the tuple t stand there -/
noncomputable def isT (H : Hp) (t : List Int) : Value → Bool
  | .ref r => decide (H r = some (.tup (t.map V.int)))
  | _ => false
theorem isT_ref {H : Hp} {t u : List Int} {r : Addr} (h : H r = some (.tup (u.map V.int))) : isT H t (.ref r) = decide (u = t) := by
  classical
  unfold isT
  rw [Bool.eq_iff_iff, decide_eq_true_iff, decide_eq_true_iff, h]
  constructor
  · intro e
    injection e with e
    injection e with e
    exact ints_inj e
  · rintro rfl; rfl
theorem any_isT {H : Hp} {t : List Int} : ∀ {rs : List Addr} {ts : List (List Int)}, TupsH H rs ts → (rs.map Value.ref).any (isT H t) = ts.any (fun u => decide (u = t))
  | _, _, .nil => rfl
  | _, _, .cons h r => by rw [List.map_cons, List.any_cons, List.any_cons, isT_ref h.1, any_isT r]
/-- (a, b) not in xs, all tuples of ints -/
theorem op_notInT (hu : X.A.units + 1 < cLine) : OpR X (compareOp .NotIn) (fun x y H Q => ∃ b t p rs ts, x = .ref b ∧ H b = some (.tup (t.map V.int)) ∧ y = .ref p ∧ SqL X.K H p (rs.map V.ref) ∧ TupsH H rs ts ∧ Q (.bl (!ts.any fun u => decide (u = t))) H) := by
  intro pins s σ H x y v u Q I rx ry h
  obtain ⟨b, t, p, rs, ts, rfl, hb, rfl, hq, hp, q⟩ := h
  cases rx
  cases ry
  obtain ⟨its, rv, pl, hz⟩ := I.list hq
  have ei := refs_of rv
  subst ei
  refine SeqAt.notIn_listAt (isT H t) pl.isList (fun v hv => ?_) ⟨.bl _, H, I, rfl, ?_⟩
  · have hv' : v ∈ rs.map Value.ref := by simpa using hv
    obtain ⟨r, hr, rfl⟩ := List.mem_map.mp hv'
    obtain ⟨i, hi, e⟩ := List.getElem_of_mem hr
    obtain ⟨t', _, ht, _⟩ := Sx.pair_at (i := i) (a := r) hp (by rw [← e]; simp [hi])
    rw [isT_ref ht]
    exact Sx.eqAt_tups (I.tupI ht) (I.tupI hb) hu
  · rw [show (rs.map Value.ref).toArray.any (isT H t) = (rs.map Value.ref).any (isT H t) by simp, any_isT hp]
    exact q
theorem all_eqL : ∀ (ts us : List (List Int)), ts.length = us.length → (List.range ts.length).all (fun j => decide (ts.getD j [] = us.getD j [])) = decide (ts = us) := by
  intro ts us hl
  rw [Bool.eq_iff_iff, List.all_eq_true, decide_eq_true_iff]
  constructor
  · intro h1
    apply List.ext_getElem hl
    intro i hi hj
    have := h1 i (List.mem_range.mpr hi)
    simpa [hi, hj] using this
  · rintro rfl
    exact fun i _ => by simp
/-- two lists of tuples of ints compared -/
theorem op_eqLT (hu : X.A.units + 1 < cLine) : OpR X (compareOp .Eq) (fun x y H Q => ∃ a b rs qs ts us, x = .ref a ∧ y = .ref b ∧ SqL X.K H a (rs.map V.ref) ∧ SqL X.K H b (qs.map V.ref) ∧ TupsH H rs ts ∧ TupsH H qs us ∧ Q (.bl (decide (ts = us))) H) := by
  intro pins s σ H x y v u Q I rx ry h
  obtain ⟨a, b, rs, qs, ts, us, rfl, rfl, ha, hb, hp, hq, q⟩ := h
  cases rx
  cases ry
  obtain ⟨ia, ra, pa, _⟩ := I.list ha
  obtain ⟨ib, rb, pb, _⟩ := I.list hb
  have ea := refs_of ra
  have eb := refs_of rb
  subst ea
  subst eb
  have l1 := Paired.length hp
  have l2 := Paired.length hq
  have hu' : X.A.units < cLine := by omega
  by_cases hl : rs.length = qs.length
  · refine SeqAt.eq_listAt (e := fun j => decide (ts.getD j [] = us.getD j [])) pa.isList pb.isList (by simp [hl]) hu' (fun j h1 h2 => ?_) ?_
    · have h1' : j < rs.length := by simpa using h1
      have h2' : j < qs.length := by simpa using h2
      obtain ⟨t, et, ht, _⟩ := Sx.pair_at (i := j) (a := rs[j]) hp (by simp [h1'])
      obtain ⟨t', et', ht', _⟩ := Sx.pair_at (i := j) (a := qs[j]) hq (by simp [h2'])
      have e1 : ts.getD j [] = t := by simp [et]
      have e2 : us.getD j [] = t' := by simp [et']
      rw [e1, e2]
      simp only [List.getElem_toArray, List.getElem_map]
      exact Sx.eqAt_tups (I.tupI ht) (I.tupI ht') hu
    · rw [show (rs.map Value.ref).toArray.size = ts.length by simp [l1], all_eqL ts us (by omega)]
      exact ⟨.bl _, H, I, rfl, q⟩
  · refine SeqAt.eq_list_lengthsAt pa.isList pb.isList (by simpa using hl) hu' ⟨.bl false, H, I, rfl, ?_⟩
    rw [show decide (ts = us) = false from decide_eq_false (fun e => hl (by rw [l1, l2, e]))] at q
    exact q
end
end L2

/-! ### turns of a comprehension, lists side by side -/
namespace L2
open PySem PySem.Spec PyProof.Rows
theorem yes_of {σ : St} {H : Hp} {A B : Hp → Prop} (h : A H) : tYes σ H fun c H5 => if c = true then A H5 else B H5 := by
  show if true = true then A H else B H
  rw [if_pos rfl]
  exact h
/-- the next turn of a comprehension of n turns -/
def Nxt (n i : Nat) (Pv : Nat → List V → St → Hp → Prop) (ys : List V) (σ : St) (H : Hp) : Prop := ∃ m', m' < n - i ∧ m' = n - (i + 1) ∧ i + 1 ≤ n ∧ Pv (i + 1) ys σ H
theorem Nxt.mk {n i : Nat} {Pv : Nat → List V → St → Hp → Prop} {ys : List V} {σ : St} {H : Hp} (hi : i < n) (h : Pv (i + 1) ys σ H) : Nxt n i Pv ys σ H := ⟨n - (i + 1), by omega, rfl, hi, h⟩
theorem turns_list {K : PySem.W.Frag} {a D : Addr} {xs : List V} {g : TG} {tt : TT} {te : TE} {σ0 : St} {Qd : Hp → Prop} {H1 : Hp} (Pv : Nat → List V → St → Hp → Prop) (h0 : Pv 0 [] σ0 (upd H1 D (.lst [])))
    (hD : ∀ i ys σ H, Pv i ys σ H → H D = some (.lst ys) ∧ ys.length < sizeLine ∧ SqL K H a xs)
    (hs : ∀ i x ys σ H, xs[i]? = some x → Pv i ys σ H → g x σ H fun σ2 H4 => tt σ2 H4 fun c H5 => if c = true then te σ2 H5 fun y H6 => H6 D = some (.lst ys) ∧ Nxt xs.length i Pv (ys ++ [y]) σ2 (upd H6 D (.lst (ys ++ [y]))) else Nxt xs.length i Pv ys σ2 H5)
    (hd : ∀ ys σ H, Pv xs.length ys σ H → Qd H) : tTurns (Itl K a) g tt te σ0 D Qd H1 := by
  refine ⟨fun i m ys σ H => m = xs.length - i ∧ i ≤ xs.length ∧ Pv i ys σ H, ⟨xs.length, by simp, Nat.zero_le _, h0⟩, ?_⟩
  rintro i m ys σ H ⟨rfl, hi, p⟩
  obtain ⟨d1, d2, d3⟩ := hD i ys σ H p
  refine ⟨d1, ?_⟩
  by_cases hlt : i < xs.length
  · refine .inr ⟨⟨xs, xs[i], d3, by simp [hlt]⟩, d2, fun x H3 y => ?_⟩
    obtain ⟨e, y⟩ := y
    subst e
    exact hs i x ys σ _ (y xs d3) p
  · have e : i = xs.length := by omega
    subst e
    exact .inl ⟨⟨xs, d3, Nat.le_refl _⟩, hd ys σ H p⟩
theorem turns_range {lo : Int} {n : Nat} {D : Addr} {g : TG} {tt : TT} {te : TE} {σ0 : St} {Qd : Hp → Prop} {H1 : Hp} (Pv : Nat → List V → St → Hp → Prop) (h0 : Pv 0 [] σ0 (upd H1 D (.lst [])))
    (hD : ∀ i ys σ H, Pv i ys σ H → H D = some (.lst ys) ∧ ys.length < sizeLine)
    (hs : ∀ i ys σ H, i < n → Pv i ys σ H → g (.int (lo + i)) σ H fun σ2 H4 => tt σ2 H4 fun c H5 => if c = true then te σ2 H5 fun y H6 => H6 D = some (.lst ys) ∧ Nxt n i Pv (ys ++ [y]) σ2 (upd H6 D (.lst (ys ++ [y]))) else Nxt n i Pv ys σ2 H5)
    (hd : ∀ ys σ H, Pv n ys σ H → Qd H) : tTurns (Itr lo n) g tt te σ0 D Qd H1 := by
  refine ⟨fun i m ys σ H => m = n - i ∧ i ≤ n ∧ Pv i ys σ H, ⟨n, by simp, Nat.zero_le _, h0⟩, ?_⟩
  rintro i m ys σ H ⟨rfl, hi, p⟩
  obtain ⟨d1, d2⟩ := hD i ys σ H p
  refine ⟨d1, ?_⟩
  by_cases hlt : i < n
  · refine .inr ⟨hlt, d2, fun x H3 y => ?_⟩
    obtain ⟨e, y⟩ := y
    subst e y
    exact hs i ys σ _ hlt p
  · have e : i = n := by omega
    subst e
    exact .inl ⟨Nat.le_refl _, hd ys σ H p⟩
theorem paired_zip {α β : Type} {F : α → β → Prop} : ∀ {l : List α} {m : List β}, Paired F l m → ∀ p ∈ l.zip m, F p.1 p.2
  | _, _, .nil, p, hp => by simp at hp
  | _, _, .cons h t, p, hp => by
    rcases List.mem_cons.mp hp with rfl | hp
    · exact h
    · exact paired_zip t p hp
theorem zip_paired {α β : Type} {F : α → β → Prop} : ∀ {l : List α} {m : List β}, l.length = m.length → (∀ p ∈ l.zip m, F p.1 p.2) → Paired F l m
  | [], [], _, _ => .nil
  | [], _ :: _, e, _ => by simp at e
  | _ :: _, [], e, _ => by simp at e
  | a :: l, b :: m, e, h => .cons (h (a, b) (.head _)) (zip_paired (by simpa using e) fun p hp => h p (.tail _ hp))
theorem TupsH.sorted {H : Hp} {rs rs' : List Addr} {ts ts' : List (List Int)} (h : TupsH H rs ts) (S : Sx.Sorted rs ts rs' ts') : TupsH H rs' ts' ∧ ts'.Perm ts ∧ rs'.length = rs.length := by
  have l1 := Paired.length h
  have e := S.perm.length_eq
  rw [List.length_zip, List.length_zip] at e
  have e2 := S.len
  refine ⟨zip_paired S.len fun p hp => paired_zip h p (S.perm.mem_iff.mp hp), ?_, by omega⟩
  have q := S.perm.map (·.2)
  rw [List.map_snd_zip (by omega), List.map_snd_zip (by omega)] at q
  exact q
end L2
namespace L2
open PySem PySem.Spec PyProof.Rows
theorem paired_snoc {α β : Type} {F : α → β → Prop} : ∀ {l : List α} {m : List β} {a : α} {b : β}, Paired F l m → F a b → Paired F (l ++ [a]) (m ++ [b])
  | _, _, _, _, .nil, h => .cons h .nil
  | _, _, _, _, .cons q t, h => .cons q (paired_snoc t h)
end L2

/-! ### lists of bools -/
namespace L2
open PySem PySem.Spec PyProof.Rows
theorem vals_bls : ∀ {bs : List Bool} {us : List Value}, Vals (bs.map V.bl) us → us = bs.map Value.bool
  | [], _, h => by rw [List.map_nil] at h; cases h; rfl
  | b :: bs, _, h => by
    rw [List.map_cons] at h
    cases h with
    | cons h1 h2 => rw [vals_bls h2, List.map_cons]; cases h1; rfl
end L2

/-! ### more rules: isinstance of plain values, all, sorted of ints, == of lists of ints and of lists of such, insert -/
namespace Sx
open PySem PySem.W PyProof.Rows
theorem all_eqI (t u : List Int) (hl : t.length = u.length) : (List.range t.length).all (fun j => t.getD j 0 == u.getD j 0) = decide (t = u) := by
  rw [Bool.eq_iff_iff, List.all_eq_true, decide_eq_true_iff]
  constructor
  · intro h1
    apply List.ext_getElem hl
    intro i hi hj
    have := h1 i (List.mem_range.mpr hi)
    simpa [hi, hj] using this
  · rintro rfl
    exact fun i _ => by simp
/-- a list of ints lies there -/
def LstI (h : Heap) (a : Addr) (t : List Int) : Prop := ∃ its : Array Value, h.IsList a its ∧ IntsAre its.toList t
section
variable {A : Around} {s : Shared} {a b : Addr} {t u : List Int}
theorem rcNe_ints (ha : LstI s.heap a t) (hb : LstI s.heap b u) (hu : A.units < cLine) : SeqAt.RcNeAt A s (.ref a) (.ref b) (!decide (t = u)) := by
  obtain ⟨ia, la, pa⟩ := ha
  obtain ⟨ib, lb, pb⟩ := hb
  have sa : ia.size = t.length := by rw [← pa.length, Array.length_toList]
  have sb : ib.size = u.length := by rw [← pb.length, Array.length_toList]
  by_cases hl : t.length = u.length
  · have := SeqAt.RcNeAt.lists (A := A) (e := fun j => t.getD j 0 == u.getD j 0) la lb (by omega) hu fun j h1 h2 => by
      obtain ⟨t1, e1⟩ := ints_at (i := j) (v := ia[j]) pa (by simp [h1])
      obtain ⟨t2, e2⟩ := ints_at (i := j) (v := ib[j]) pb (by simp [h2])
      rw [e1, e2]
      exact SeqAt.EqAt.int_int _ _ _ _
    rw [sa, all_eqI t u hl] at this
    exact this
  · have := SeqAt.RcNeAt.lists_lengths (A := A) la lb (by rw [sa, sb]; simpa using hl) hu
    rw [show decide (t = u) = false from decide_eq_false fun e => hl (by rw [e])]
    exact this
end
theorem intsAre_at : ∀ {vs : List Value} {t : List Int}, vs.length = t.length → (∀ (j : Nat) v, vs[j]? = some v → ∃ tk, v = .int (t.getD j 0) tk) → IntsAre vs t
  | [], [], _, _ => .nil
  | [], _ :: _, e, _ => by simp at e
  | _ :: _, [], e, _ => by simp at e
  | v :: vs, n :: t, e, h => by
    obtain ⟨tk, rfl⟩ := h 0 v rfl
    exact .cons n tk (intsAre_at (by simpa using e) fun j v hv => by simpa using h (j + 1) v (by simpa using hv))
end Sx
namespace L2
open PySem PySem.Spec PyProof.Rows
/-- lists of ints -/
abbrev LsH (H : Hp) (rs : List Addr) (ts : List (List Int)) : Prop := Paired (fun r t => H r = some (.lst (t.map V.int))) rs ts
section
variable {X : Cx} {pins : List (Addr × Obj)} {σ : St} {H : Hp} {s : Shared}
theorem Inv.lstI {a : Addr} {t : List Int} (I : Inv X pins σ H s) (hq : SqL X.K H a (t.map V.int)) : Sx.LstI s.heap a t := by
  obtain ⟨its, rv, pl, hz⟩ := I.list hq
  exact ⟨its.toArray, pl.isList, by simpa using intsAre_of rv⟩
theorem op_neI (hu : X.A.units < cLine) : OpR X (compareOp .NotEq) (fun x y H Q => ∃ (a b : Addr) (t u : List Int), x = .ref a ∧ y = .ref b ∧ SqL X.K H a (t.map V.int) ∧ SqL X.K H b (u.map V.int) ∧ Q (.bl (!decide (t = u))) H) := by
  intro pins s σ H x y v u Q I rx ry h
  obtain ⟨a, b, t, w, rfl, rfl, ha, hb, q⟩ := h
  cases rx
  cases ry
  exact Sx.rcNe_ints (I.lstI ha) (I.lstI hb) hu X.prog X.w _ _ ⟨.bl _, H, I, rfl, q⟩
/-- isinstance(x, T), T a built-in kind -/
theorem call_isV : CallR X (.builtin "isinstance") (fun vs H Q => ∃ (x : V) (T : String) (t : Value) (b : Bool), vs = [x, .ty T] ∧ TyOf X.K H x t ∧ PySem.W.kitOne X.K t (.type T) = some b ∧ Q (.bl b) H) := by
  intro pins s σ H vs us Q I r h
  obtain ⟨x, T, t, b, rfl, ty, e, q⟩ := h
  obtain ⟨u, v, rfl, r1, r2⟩ := vals2 r
  cases (show v = Value.type T from r2)
  exact isinst_ok I r1 ty e fun tk => ⟨.bl b, H, I.tok tk, rfl, q⟩
theorem range_allB (bs : List Bool) : ((List.range bs.length).all fun i => (bs[i]?).getD true) = bs.all id := by
  rw [Bool.eq_iff_iff, List.all_eq_true, List.all_eq_true]
  constructor
  · intro h b hb
    obtain ⟨i, hi, rfl⟩ := List.getElem_of_mem hb
    have := h i (List.mem_range.mpr hi)
    simpa [hi] using this
  · intro h i hi
    have hi' := List.mem_range.mp hi
    simpa [hi'] using h bs[i] (List.getElem_mem hi')
/-- all(xs), bools -/
theorem call_allB (hc : X.calm = true) : CallR X (.builtin "all") (fun vs H Q => ∃ (a : Addr) (bs : List Bool), vs = [.ref a] ∧ SqL X.K H a (bs.map V.bl) ∧ Q (.bl (bs.all id)) H) := by
  intro pins s σ H vs us Q I r h
  obtain ⟨a, bs, rfl, hq, q⟩ := h
  obtain ⟨u, rfl, ru⟩ := vals1 r
  cases ru
  obtain ⟨its, rv, pl, hz⟩ := I.list hq
  have ei := vals_bls rv
  subst ei
  have hl := pl.isList
  have hlt : a < s.heap.objs.size := by obtain ⟨_, e, _⟩ := hl; exact Heap.lt_size e
  refine PySem.call_all_walk (wpAny_pyIter_list hl ?_)
  refine ⟨s.heap.objs.size, [s.heap.objs.size, a], [s.heap.objs.size], (bs.map Value.bool).toArray.size, _, _, fun i => (bs[i]?).getD true, rfl, Walks.list (A := X.A.in1) (I.ok.hd hc) _ a (Nat.ne_of_lt hlt) (bs.map Value.bool).toArray,
    ⟨⟨_, Heap.get?_push_size _ rfl, rfl, rfl⟩, hl.push _⟩, fun i v s' Q' E' hP hQ => ?_, fun h' tk hk => ?_⟩
  · have hP : (bs.map Value.bool)[i]? = some v := by simpa using hP
    rw [List.getElem?_map] at hP
    cases e : bs[i]? with
    | none => rw [e] at hP; cases hP
    | some b =>
      rw [e] at hP
      cases hP
      simp only [e, Option.getD_some] at hQ
      exact wpAny_truthy_bool hQ
  · have e : ((List.range (bs.map Value.bool).toArray.size).all fun i => (bs[i]?).getD true) = bs.all id := by
      rw [List.size_toArray, List.length_map]; exact range_allB bs
    rw [e]
    exact ⟨.bl _, H, I.kept fun b x z => hk b x (fun hm => by rw [List.mem_singleton.mp hm] at z; exact Nat.lt_irrefl _ (Heap.lt_size z)) (Heap.get?_push_of_some _ z), rfl, q⟩
/-- sorted(d), the keys ints -/
theorem call_sortedDI (hc : X.calm = true) : CallR X (.builtin "sorted") (fun xs H Q => ∃ (a : Addr) (kvs : List (Key × V)) (t : List Int), xs = [.ref a] ∧ H a = some (.dK kvs) ∧ kvs.map (·.1) = t.map Sum.inl ∧ t.length < 64 ∧
    ∀ (t' : List Int) (p : Addr), t'.Perm t → t'.Pairwise (· ≤ ·) → H p = none → Q (.ref p) (upd H p (.lst (t'.map V.int)))) := by
  intro pins s σ H xs us Q I r h
  obtain ⟨a, kvs, t, rfl, ha, hk, h64, q⟩ := h
  obtain ⟨u, rfl, ru⟩ := vals1 r
  cases ru
  obtain ⟨z, lo, vs, rel, dd⟩ := dk_of I.hok ha
  obtain ⟨ep, hat⟩ := dd.dictAt
  have l1 : kvs.length = vs.length := Paired.length rel
  have l2 : kvs.length = t.length := by have := congrArg List.length hk; simpa using this
  refine Calls.call_function_entry kind_sorted plain_sorted entry_sorted (args_sorted1 _) ?_
  unfold Builtin.«sorted»
  refine wpAny_bind (m := checkCount "sorted" 1 1 _) (wpAny_pure (wpAny_bind (PySem.W.kdu_collect (A := X.A.in1) (PySem.W.kdl_dict lo) (I.ok.hd hc) hat (by omega) fun h' tk acc hkp hacc => ?_)))
  have hsz : acc.toList.length = t.length := by rw [Array.length_toList, hacc.1]; omega
  have hi : IntsAre acc.toList t := Sx.intsAre_at hsz fun j v hv => by
    obtain ⟨k, x, e1, e2⟩ := hacc.2 j v (by simpa using hv)
    have hj : j < kvs.length := by have := (List.getElem?_eq_some_iff.mp e1).1; omega
    obtain ⟨p, ep', hp, _⟩ := Sx.pair_at (i := j) (a := kvs[j]) rel (by simp [hj])
    rw [e1] at ep'
    cases ep'
    have e3 : (kvs.map (·.1))[j]? = some k := by rw [List.getElem?_map, List.getElem?_eq_getElem hj]; exact congrArg some hp
    rw [hk, List.getElem?_map] at e3
    cases e4 : t[j]? with
    | none => rw [e4] at e3; cases e3
    | some n =>
      rw [e4] at e3
      cases e3
      obtain ⟨tk', rfl⟩ := Value.isInt_shape (k := n) (v := v) e2
      exact ⟨tk', by simp [e4]⟩
  have I1 : Inv X pins σ H { s with heap := h', toks := tk } := I.kept hkp
  refine wpAny_bind (wpAny_newList ?_ (by rw [hsz, sizeLine_eq]; omega))
  have ho : (h'.push { cls := .type "list", data := .seq acc.toList.toArray }).get? h'.objs.size = some (seqObj "list" acc.toList.toArray 0) := Heap.get?_push_size _ rfl
  refine wpAny_bind (wpAny_holding (wpAny_call_entry slot_list_sort ⟨_, ho, rfl⟩ entry_list_sort (list_sort_tree (s := { s with heap := h'.push { cls := .type "list", data := .seq acc.toList.toArray }, toks := tk }) ho hi (by omega) fun out ns' a1 a2 a3 => ⟨_, rfl, ?_⟩) (args_list_sort _)))
  obtain ⟨e, he⟩ := sortedHeap_at (out := out) ho
  have hfr : H h'.objs.size = none := I1.hok.fresh (Nat.le_refl _)
  have hln := a2.length_eq
  refine wpAny_pure ⟨_, rfl, ⟨.ref h'.objs.size, _, I1.laid (a := h'.objs.size) (o := .lst (ns'.map V.int)) (t' := tk) (fun b o z => ?_) (Nat.le_refl _) ⟨by rw [List.length_map, sizeLine_eq]; omega, out.toList, e, vals_ints a1, he⟩, rfl, q ns' _ a2 a3 hfr⟩⟩
  have hlt := Heap.lt_size z
  exact (sortedHeap_old (Nat.ne_of_lt hlt) (by rw [size_push']; exact Nat.lt_succ_of_lt hlt)).trans (Heap.get?_push_of_some _ z)
theorem Vals.take' : ∀ {xs : List V} {us : List Value} (k : Nat), Vals xs us → Vals (xs.take k) (us.take k)
  | _, _, 0, _ => by rw [List.take_zero, List.take_zero]; exact .nil
  | _, _, _ + 1, .nil => .nil
  | _, _, k + 1, .cons r t => .cons r (Vals.take' k t)
theorem Vals.drop' : ∀ {xs : List V} {us : List Value} (k : Nat), Vals xs us → Vals (xs.drop k) (us.drop k)
  | _, _, 0, h => h
  | _, _, _ + 1, .nil => .nil
  | _, _, k + 1, .cons _ t => Vals.drop' k t
/-- xs.insert(i, y), i in bounds -/
theorem mt_insert : MtM X "list.insert" (fun x vs H Q => ∃ (l : Addr) (xs : List V) (i : Int) (y : V), x = .ref l ∧ vs = [.int i, y] ∧ H l = some (.lst xs) ∧ 0 ≤ i ∧ i ≤ xs.length ∧ xs.length < 1000 ∧ Q .non (upd H l (.lst (xs.take i.toNat ++ y :: xs.drop i.toNat)))) := by
  intro pins s σ H x vs v us Q I rx rv h
  obtain ⟨l, xs, i, y, rfl, rfl, hH, h0, h1, hz, q⟩ := h
  cases rx
  obtain ⟨u, w, rfl, ru, rw'⟩ := rv.two
  obtain ⟨t, rfl⟩ := ru
  obtain ⟨z, its, n, r, hl, e⟩ := I.lstM hH
  have hf : Builtin.List.listFitsIndex i = true := by
    unfold Builtin.List.listFitsIndex
    first | (simp; omega) | (rw [Bool.and_eq_true, decide_eq_true_iff, decide_eq_true_iff]; omega)
  refine call_meets PySem.F.slot_list_insert ⟨_, e, rfl⟩ PySem.F.entry_list_insert (PySem.F.args_list_insert_3 _ _ _) (PySem.AutoSeq1.list_insert_list_int_val_1 l its.toArray n i t w (by simp [hf]) (by rw [List.size_toArray]; omega)) ⟨e, ?_⟩
  refine ⟨.non, _, I.lset (its' := its.take i.toNat ++ w :: its.drop i.toNat) hH e ?_ ((Vals.take' _ r).append (.cons rw' (Vals.drop' _ r))) ?_, rfl, q⟩
  · have e1 : ¬ i < 0 := by omega
    have e2 : min i.toNat its.length = i.toNat := by omega
    simp only [e1, if_false, List.size_toArray, e2]
    apply Array.ext'
    simp
    exact List.take_of_length_le (by rw [List.length_drop]; exact Nat.le_refl _)
  · rw [List.length_append, List.length_cons, List.length_take, List.length_drop, sizeLine_eq]
    omega
end
end L2

/-! ### k13: the mathematics: parts of a web -/
namespace G13
abbrev Tri := Int × Int × Int
/-- some tie has these two ends -/
def tied (T : List Tri) (x y : Int) : Prop := ∃ t ∈ T, (t.1 = x ∧ t.2.1 = y) ∨ (t.1 = y ∧ t.2.1 = x)
/-- a way from x along ties, none of its further points out -/
inductive Reach (T : List Tri) (O : List Int) (x : Int) : Int → Prop
  | refl : Reach T O x x
  | step {y z : Int} : Reach T O x y → tied T y z → z ∉ O → Reach T O x z
section
variable {T : List Tri} {O : List Int} {x y z m : Int}
/-- the points -/
def pts (m : Int) : List Int := (List.range m.toNat).map fun (i : Nat) => (i : Int)
open Classical in
/-- the part of a point -/
noncomputable def comp (m : Int) (T : List Tri) (O : List Int) (x : Int) : List Int := (pts m).filter fun y => decide (Reach T O x y)
/-- the first point of its part -/
def first (T : List Tri) (O : List Int) (x : Int) : Prop := x ∉ O ∧ ∀ y, 0 ≤ y → y < x → y ∉ O → ¬ Reach T O y x
/-- what has been met ahead of point i -/
def met (m : Int) (T : List Tri) (O : List Int) (i : Int) (y : Int) : Prop := y ∈ O ∨ ∃ x, 0 ≤ x ∧ x < i ∧ first T O x ∧ y ∈ comp m T O x
def good (m : Int) (T : List Tri) : Prop := ∀ t ∈ T, 0 ≤ t.1 ∧ t.1 < m ∧ 0 ≤ t.2.1 ∧ t.2.1 < m
open Classical in
noncomputable def firsts (m : Int) (T : List Tri) (O : List Int) (i : Int) : List Int := (pts i).filter fun x => decide (first T O x)
/-- the parts of the points below i -/
noncomputable def partsTo (m : Int) (T : List Tri) (O : List Int) (i : Int) : List (List Int) := (firsts m T O i).map (comp m T O)
/-- a part hangs together: what is reached from one of it within it -/
structure Hangs (T : List Tri) (P : List Int) (h : Int) : Prop where
  ex : ∃ O : List Int, (∀ y ∈ P, Reach T O h y) ∧ ∀ y ∈ P, ∀ z, tied T y z → z ∉ O → z ∈ P
/-- where each point stands -/
def plc : Nat → List (List Int) → List (Int × Nat)
  | _, [] => []
  | k, c :: r => c.map (fun y => (y, k)) ++ plc (k + 1) r
end
end G13

namespace L2
open PySem PySem.Spec PyProof.Rows
/-- 0, 1, .. n - 1 -/
def upto (n : Nat) : List Int := (List.range n).map fun (i : Nat) => (i : Int)
def tLR (ta : TA) : TE := fun σ H Q => ta σ H fun vs H1 => ∃ j : Int, vs = [.int j] ∧ 0 ≤ j ∧ j ≤ 1000 ∧ ∀ l, H1 l = none → Q (.ref l) (upd H1 l (.lst ((upto j.toNat).map V.int)))
section
variable {X : Cx}
end
section
variable {X : Cx} {pins : List (Addr × Obj)} {σ : St} {H : Hp} {s : Shared}
end
end L2

/-! ### sum(x), x.index(y): lists of ints -/
namespace L2
open PySem PySem.Spec PyProof.Rows
section
variable {X : Cx}
end
end L2

/-! ### what the laws over webs and pairs share -/
namespace Mt
end Mt
namespace L2
open PySem PySem.Spec PyProof.Rows
theorem PS.imp {X : Cx} {st : Stmt} {t t' : TS} (h : PS X st t) (i : ∀ D σ H, t' D σ H → t D σ H) : PS X st t' := fun pins s σ H D I q => h pins s σ H D I (i D σ H q)
theorem pick2 {xs : List Int} {z : Int} (h0 : 0 ≤ z) (h1 : z < xs.length) : ∃ v : Int, v ∈ xs ∧ atI (xs.map V.int) z = some (.int v) := by
  have hz : z.toNat < xs.length := by omega
  refine ⟨xs[z.toNat], by simp, ?_⟩
  have := atI_nat (xs := xs.map V.int) (j := z.toNat) (v := .int xs[z.toNat]) (by simp [hz])
  rwa [Int.toNat_of_nonneg h0] at this
theorem set_self {α : Type} : ∀ {l : List α} {i : Nat} {x : α}, l[i]? = some x → l.set i x = l
  | [], _, _, e => by simp at e
  | a :: l, 0, x, e => by simp at e; subst e; rfl
  | a :: l, i + 1, x, e => by
    show a :: l.set i x = a :: l
    rw [set_self (l := l) (i := i) (by simpa using e)]
theorem map_int_at {xs : List Int} {i : Nat} {v : V} (h : (xs.map V.int)[i]? = some v) : ∃ z, v = .int z ∧ xs[i]? = some z := by
  rw [List.getElem?_map] at h
  cases e : xs[i]? with
  | none => rw [e] at h; cases h
  | some z => rw [e] at h; exact ⟨z, (Option.some.inj h).symm, rfl⟩
/-- a cut of any list -/
def cutA {α : Type} (xs : List α) (lo hi : Option Int) : List α := (xs.drop (HT.sIx xs.length 0 lo)).take (HT.sIx xs.length xs.length hi - HT.sIx xs.length 0 lo)
theorem cut_map {α : Type} (f : α → V) (xs : List α) (lo hi : Option Int) : cutV (xs.map f) lo hi = (cutA xs lo hi).map f := by
  unfold cutV cutA
  rw [List.length_map, List.map_take, List.map_drop]
theorem sIx_hi (n : Nat) {i : Int} (h : 0 ≤ i) : HT.sIx n n (some i) = min i.toNat n := by
  unfold HT.sIx
  dsimp only
  rw [if_neg (by omega)]
/-- all of them pairs of ints -/
def Prs (H : Hp) (rs : List Addr) : Prop := ∀ r ∈ rs, ∃ x y : Int, H r = some (.tup [.int x, .int y])
def Two (ts : List (List Int)) : Prop := ∀ t ∈ ts, ∃ x y : Int, t = [x, y]
theorem bt_bool : bootBuiltins "bool" = some (.type "bool") := by decide +kernel
theorem bt_int : bootBuiltins "int" = some (.type "int") := by decide +kernel
theorem bt_list : bootBuiltins "list" = some (.type "list") := by decide +kernel
theorem bt_tuple : bootBuiltins "tuple" = some (.type "tuple") := by decide +kernel
/-- an object laid out for the first time -/
theorem Same.new' {H : Hp} {p : Addr} {o : HO} (h : H p = none) : Same H (upd H p o) := fun b u e => by
  rw [upd_ne (ne_of_none e h)]
  exact e
end L2

/-! ### lists of ints -/
namespace L2
open PySem PySem.Spec PyProof.Rows
theorem cutA_take {α : Type} (xs : List α) {i : Int} (h : 0 ≤ i) : cutA xs none (some i) = xs.take i.toNat := by
  unfold cutA
  rw [sIx_hi _ h]
  have e : HT.sIx xs.length 0 none = 0 := rfl
  rw [e, List.drop_zero, Nat.sub_zero]
  by_cases q : i.toNat ≤ xs.length
  · rw [Nat.min_eq_left q]
  · rw [Nat.min_eq_right (by omega), List.take_length, List.take_of_length_le (by omega)]
theorem atI_get' {xs : List Int} {z : Int} {k : Nat} (e : z = k) (h : k < xs.length) : atI (xs.map V.int) z = some (.int (xs.getD k 0)) := by
  subst e
  exact atI_nat (by simp [h])
theorem inV_ints (x : Int) (t : List Int) : inV (.int x) (t.map V.int) = decide (x ∈ t) := by
  unfold inV
  rw [List.any_map, Bool.eq_iff_iff, decide_eq_true_iff, List.any_eq_true]
  constructor
  · rintro ⟨y, hy, e⟩
    have e : (y == x) = true := e
    exact beq_iff_eq.mp e ▸ hy
  · exact fun h => ⟨x, h, beq_self_eq_true x⟩
theorem flat_ints (us : List Int) : (us.map V.int).all flatV = true := by
  rw [List.all_map]
  exact List.all_eq_true.mpr fun _ _ => rfl
theorem upto_succ (n : Nat) : upto (n + 1) = upto n ++ [(n : Int)] := by
  unfold upto
  rw [List.range_succ, List.map_append]
  rfl
theorem upto_len (n : Nat) : (upto n).length = n := by simp [upto]
theorem upto_nd (n : Nat) : (upto n).Nodup := by
  induction n with
  | zero => exact List.nodup_nil
  | succ n ih =>
    rw [upto_succ, List.nodup_append]
    refine ⟨ih, by simp, fun a ha b hb => ?_⟩
    rw [List.mem_singleton] at hb
    obtain ⟨k, hk, rfl⟩ := List.mem_map.mp ha
    have := List.mem_range.mp hk
    omega
theorem ix_listK {X : Cx} (K : PySem.W.Frag) (h : X.K = K) : IxR X (rIxL K) := by subst h; exact ix_list
end L2

/-! ### sets with a price: lists of (list of ints, int) -/
namespace L2
open PySem PySem.Spec PyProof.Rows
/-- a tuple of a list of ints and an int -/
def SetH (H : Hp) (q : Addr) (s : List Int × Int) : Prop := ∃ m, H q = some (.tup [.ref m, .int s.2]) ∧ H m = some (.lst (s.1.map V.int))
abbrev SetsH (H : Hp) (qs : List Addr) (ss : List (List Int × Int)) : Prop := Paired (SetH H) qs ss
theorem paired_imp {α β : Type} {F G : α → β → Prop} (f : ∀ a b, F a b → G a b) : ∀ {l : List α} {m : List β}, Paired F l m → Paired G l m
  | _, _, .nil => .nil
  | _, _, .cons h t => .cons (f _ _ h) (paired_imp f t)
section
variable {X : Cx} {pins : List (Addr × Obj)} {σ : St} {H : Hp} {s : Shared}
open Classical in
/-- does the list t stand there -/
noncomputable def isL (H : Hp) (t : List Int) : Value → Bool
  | .ref r => decide (H r = some (.lst (t.map V.int)))
  | _ => false
/-- prices: a tuple of an int, a list of ints, a list of such -/
def PriH (H : Hp) (p : Addr) (u : Int) (t : List Int) (ss : List (List Int × Int)) : Prop := ∃ (a b : Addr) (qs : List Addr), H p = some (.tup [.int u, .ref a, .ref b]) ∧ H a = some (.lst (t.map V.int)) ∧ H b = some (.lst (qs.map V.ref)) ∧ SetsH H qs ss
end
end L2
namespace L2
open PySem PySem.Spec PyProof.Rows
/-- some of the points, an odd number of them or none -/
def GoodT (n : Nat) (t : List Int) : Prop := t.Sublist (upto n) ∧ (t = [] ∨ t.length % 2 = 1)
/-- tuples and lists of ints with something in them stay -/
def Kp (H H' : Hp) : Prop := (∀ a xs, H a = some (.tup xs) → H' a = some (.tup xs)) ∧ ∀ a (t : List Int), t ≠ [] → H a = some (.lst (t.map V.int)) → H' a = some (.lst (t.map V.int))
theorem Kp.upd {H : Hp} {l : Addr} {qs : List Addr} {o : HO} (h : H l = some (.lst (qs.map V.ref))) : Kp H (upd H l o) := by
  refine ⟨fun a xs e => ?_, fun a t n e => ?_⟩
  · rw [upd_ne (fun z => by subst z; rw [h] at e; cases e)]; exact e
  · rw [upd_ne (fun z => ?_)]
    · exact e
    · subst z
      rw [h] at e
      injection e with e
      injection e with e
      cases t with
      | nil => exact n rfl
      | cons x t =>
        cases qs with
        | nil => cases e
        | cons q qs => rw [List.map_cons, List.map_cons] at e; injection e with e _; cases e
theorem caps0 {X : Cx} {scope : Scope} {own : List Str} (h1 : closureFor scope X.env = pure []) (h2 : scope.kind = .function) (h3 : ∀ y ∈ scope.names, y.2 ≠ .cell ∧ y.2 ≠ .free) (h4 : ∀ y ∈ scope.names, y.2 = .local → scope.names.lookup y.1 = some .local) : Caps X scope [] own [] [] := by
  refine ⟨h1, fun x c e => (by cases e), h2, fun y hy => (h3 y hy).1, h4, fun x hx => ?_, rfl, fun i x e => (by cases e)⟩
  have key : ∀ y ∈ (relabel scope X.env).names, y.2 ≠ .cell ∧ y.2 ≠ .free := fun y hy => by
    obtain ⟨z, hz, e⟩ := List.mem_map.mp hy
    have h' := h3 z hz
    obtain ⟨n, k⟩ := z
    have hk : (k == NameKind.free) = false := beq_eq_false_iff_ne.mpr h'.2
    simp only [hk, Bool.false_and, Bool.false_eq_true, if_false] at e
    subst e
    exact h'
  rcases hx with e | e
  · exact absurd rfl (key _ (PySem.mem_of_lookup e)).1
  · exact absurd rfl (key _ (PySem.mem_of_lookup e)).2
end L2

/-! ### ties of two choices: rows and rings, the mathematics -/
namespace Bt
/-- the tie of two points -/
def tie (x y : Int) : List Int := [Mt.lo x y, Mt.hi x y]
theorem tie_lt {x y : Int} (h : x < y) : tie x y = [x, y] := by
  unfold tie Mt.lo Mt.hi
  rw [if_neg (by omega), if_pos (by omega)]
theorem tie_gt {x y : Int} (h : y < x) : tie x y = [y, x] := by
  unfold tie Mt.lo Mt.hi
  rw [if_pos (by omega), if_neg (by omega)]
theorem tie_self (x : Int) : tie x x = [x, x] := by
  unfold tie Mt.lo Mt.hi
  simp
theorem tie_comm (x y : Int) : tie x y = tie y x := by
  rcases Int.lt_trichotomy x y with h | rfl | h
  · rw [tie_lt h, tie_gt h]
  · rfl
  · rw [tie_lt h, tie_gt h]
theorem mem_tie {x y z : Int} : z ∈ tie x y ↔ z = x ∨ z = y := by
  rcases Int.lt_trichotomy x y with h | rfl | h
  · rw [tie_lt h]; simp
  · rw [tie_self]; simp
  · rw [tie_gt h]; simp [or_comm]
theorem tie_inj {x y z w : Int} (h : tie x y = tie z w) : (x = z ∧ y = w) ∨ (x = w ∧ y = z) := by
  have a1 : x ∈ tie z w := h ▸ mem_tie.mpr (.inl rfl)
  have a2 : y ∈ tie z w := h ▸ mem_tie.mpr (.inr rfl)
  have a3 : z ∈ tie x y := h ▸ mem_tie.mpr (.inl rfl)
  have a4 : w ∈ tie x y := h ▸ mem_tie.mpr (.inr rfl)
  rw [mem_tie] at a1 a2 a3 a4
  omega
/-- a tie: the lesser point first -/
def Tie (t : List Int) : Prop := ∃ a b : Int, t = [a, b] ∧ a < b
theorem Tie.tie {x y : Int} (h : x ≠ y) : Tie (tie x y) := by
  rcases Int.lt_or_gt_of_ne h with q | q
  · exact ⟨x, y, tie_lt q, q⟩
  · exact ⟨y, x, tie_gt q, q⟩
/-- from each end to the other -/
def dir1 : List Int → List (Int × Int)
  | [a, b] => [(a, b), (b, a)]
  | _ => []
def dir (D : List (List Int)) : List (Int × Int) := D.flatMap dir1
def nbE (E : List (Int × Int)) (p : Int) : List Int := (E.filter fun e => decide (e.1 = p)).map (·.2)
def nb (D : List (List Int)) (p : Int) : List Int := nbE (dir D) p
theorem nbE_snoc (E : List (Int × Int)) (e : Int × Int) (p : Int) : nbE (E ++ [e]) p = nbE E p ++ if e.1 = p then [e.2] else [] := by
  unfold nbE
  rw [List.filter_append, List.map_append]
  by_cases c : e.1 = p
  · rw [if_pos c]; simp [c]
  · rw [if_neg c]; simp [c]
theorem mem_nbE {E : List (Int × Int)} {p q : Int} : q ∈ nbE E p ↔ (p, q) ∈ E := by
  unfold nbE
  rw [List.mem_map]
  constructor
  · rintro ⟨⟨a, b⟩, h, rfl⟩
    obtain ⟨h1, h2⟩ := List.mem_filter.mp h
    have h2 : a = p := of_decide_eq_true h2
    exact h2 ▸ h1
  · intro h
    exact ⟨(p, q), List.mem_filter.mpr ⟨h, decide_eq_true rfl⟩, rfl⟩
theorem dir_cons (t : List Int) (D : List (List Int)) : dir (t :: D) = dir1 t ++ dir D := rfl
theorem mem_nb {D : List (List Int)} (hD : ∀ t ∈ D, Tie t) {p q : Int} : q ∈ nb D p ↔ p ≠ q ∧ tie p q ∈ D := by
  unfold nb
  rw [mem_nbE]
  unfold dir
  rw [List.mem_flatMap]
  constructor
  · rintro ⟨t, ht, h⟩
    obtain ⟨a, b, rfl, hab⟩ := hD t ht
    have h : (p, q) = (a, b) ∨ (p, q) = (b, a) := by
      have h : (p, q) ∈ [(a, b), (b, a)] := h
      simpa using h
    rcases h with h | h
    · injection h with h1 h2
      subst h1 h2
      exact ⟨by omega, by rw [tie_lt hab]; exact ht⟩
    · injection h with h1 h2
      subst h1 h2
      exact ⟨by omega, by rw [tie_gt hab]; exact ht⟩
  · rintro ⟨hn, ht⟩
    refine ⟨_, ht, ?_⟩
    rcases Int.lt_or_gt_of_ne hn with h | h
    · rw [tie_lt h]
      exact .head _
    · rw [tie_gt h]
      exact .tail _ (.head _)
theorem nb_symm {D : List (List Int)} (hD : ∀ t ∈ D, Tie t) {p q : Int} (h : q ∈ nb D p) : p ∈ nb D q := by
  rw [mem_nb hD] at h ⊢
  exact ⟨Ne.symm h.1, by rw [tie_comm]; exact h.2⟩
theorem nb_nd : ∀ {D : List (List Int)}, (∀ t ∈ D, Tie t) → D.Nodup → ∀ p, (nb D p).Nodup
  | [], _, _, _ => List.nodup_nil
  | t :: D, hD, hn, p => by
    obtain ⟨n1, n2⟩ := List.nodup_cons.mp hn
    have ih := nb_nd (fun u hu => hD u (.tail _ hu)) n2 p
    obtain ⟨a, b, rfl, hab⟩ := hD t (.head _)
    have e : nb ([a, b] :: D) p = (if a = p then [b] else []) ++ ((if b = p then [a] else []) ++ nb D p) := by
      unfold nb
      rw [dir_cons]
      unfold nbE
      rw [List.filter_append, List.map_append, ← List.append_assoc]
      congr 1
      show (([(a, b), (b, a)].filter fun e => decide (e.1 = p)).map (·.2)) = _
      by_cases c1 : a = p <;> by_cases c2 : b = p <;> simp [c1, c2]
    have key : ∀ q, tie p q = [a, b] → q ∉ nb D p := fun q hq z => by
      have := ((mem_nb (fun u hu => hD u (.tail _ hu))).mp z).2
      rw [hq] at this
      exact n1 this
    rw [e]
    by_cases c1 : a = p
    · subst c1
      rw [if_pos rfl, if_neg (by omega)]
      exact List.nodup_cons.mpr ⟨key b (tie_lt hab), ih⟩
    · rw [if_neg c1]
      by_cases c2 : b = p
      · subst c2
        rw [if_pos rfl]
        exact List.nodup_cons.mpr ⟨key a (tie_gt hab), ih⟩
      · rw [if_neg c2]
        exact ih
/-- ties with two colours: of two that share a point each has its own -/
structure Two (D : List (List Int)) (c : List Int → Bool) : Prop where
  tie : ∀ t ∈ D, Tie t
  nd : D.Nodup
  col : ∀ t ∈ D, ∀ u ∈ D, t ≠ u → ∀ p, p ∈ t → p ∈ u → c t ≠ c u
section
variable {D : List (List Int)} {c : List Int → Bool} (T : Two D c)
include T
theorem two_of {p a b q : Int} (ha : a ∈ nb D p) (hb : b ∈ nb D p) (hq : q ∈ nb D p) (hab : a ≠ b) : q = a ∨ q = b := by
  rw [mem_nb T.tie] at ha hb hq
  by_cases h1 : q = a
  · exact .inl h1
  by_cases h2 : q = b
  · exact .inr h2
  exfalso
  have dif : ∀ {x y : Int}, x ≠ y → Bt.tie p x ≠ Bt.tie p y := fun h z => by
    rcases tie_inj z with w | w <;> omega
  have s1 := T.col _ ha.2 _ hb.2 (dif hab) p (mem_tie.mpr (.inl rfl)) (mem_tie.mpr (.inl rfl))
  have s2 := T.col _ ha.2 _ hq.2 (dif (Ne.symm h1)) p (mem_tie.mpr (.inl rfl)) (mem_tie.mpr (.inl rfl))
  have s3 := T.col _ hb.2 _ hq.2 (dif (Ne.symm h2)) p (mem_tie.mpr (.inl rfl)) (mem_tie.mpr (.inl rfl))
  revert s1 s2 s3
  cases c (Bt.tie p a) <;> cases c (Bt.tie p b) <;> cases c (Bt.tie p q) <;> simp
theorem no_three {x y z : Int} (h1 : y ∈ nb D x) (h2 : z ∈ nb D y) (h3 : x ∈ nb D z) : False := by
  rw [mem_nb T.tie] at h1 h2 h3
  have s1 := T.col _ h1.2 _ h2.2 (fun q => by rcases tie_inj q with w | w <;> omega) y (mem_tie.mpr (.inr rfl)) (mem_tie.mpr (.inl rfl))
  have s2 := T.col _ h2.2 _ h3.2 (fun q => by rcases tie_inj q with w | w <;> omega) z (mem_tie.mpr (.inr rfl)) (mem_tie.mpr (.inl rfl))
  have s3 := T.col _ h3.2 _ h1.2 (fun q => by rcases tie_inj q with w | w <;> omega) x (mem_tie.mpr (.inr rfl)) (mem_tie.mpr (.inl rfl))
  revert s1 s2 s3
  cases c (Bt.tie x y) <;> cases c (Bt.tie y z) <;> cases c (Bt.tie z x) <;> simp
end
/-- walked from a point as far as it goes -/
structure Walked (D : List (List Int)) (start : Int) (pts : List Int) : Prop where
  len : 2 ≤ pts.length
  h0 : pts[0]? = some start
  h1 : (nb D start)[0]? = pts[1]?
  nd : pts.Nodup
  ch : ∀ i x y, pts[i]? = some x → pts[i + 1]? = some y → y ∈ nb D x
  last : ∀ x, pts[pts.length - 1]? = some x → ∀ q ∈ nb D x, q ∈ pts
/-- ties along -/
def alo : List Int → List (List Int)
  | a :: b :: r => tie a b :: alo (b :: r)
  | _ => []
theorem alo_pts : ∀ {l : List Int} {t : List Int}, t ∈ alo l → ∃ x y, t = tie x y ∧ x ∈ l ∧ y ∈ l
  | [], _, h => by cases h
  | [_], _, h => by cases h
  | a :: b :: r, t, h => by
    rcases List.mem_cons.mp h with rfl | h
    · exact ⟨a, b, rfl, .head _, .tail _ (.head _)⟩
    · obtain ⟨x, y, e, h1, h2⟩ := alo_pts h
      exact ⟨x, y, e, .tail _ h1, .tail _ h2⟩
theorem alo_nd : ∀ {l : List Int}, l.Nodup → (alo l).Nodup
  | [], _ => List.nodup_nil
  | [_], _ => List.nodup_nil
  | a :: b :: r, h => by
    obtain ⟨n1, n2⟩ := List.nodup_cons.mp h
    refine List.nodup_cons.mpr ⟨fun z => ?_, alo_nd n2⟩
    obtain ⟨x, y, e, h1, h2⟩ := alo_pts z
    rcases tie_inj e with w | w
    · exact n1 (w.1 ▸ h1)
    · exact n1 (w.1 ▸ h2)
theorem alo_mem : ∀ {l : List Int} {i : Nat} {x y : Int}, l[i]? = some x → l[i + 1]? = some y → tie x y ∈ alo l
  | [], _, _, _, h, _ => by simp at h
  | [_], _, _, _, _, h => by simp at h
  | a :: b :: r, 0, x, y, h1, h2 => by
    simp at h1 h2
    subst h1 h2
    exact .head _
  | a :: b :: r, i + 1, x, y, h1, h2 => .tail _ (alo_mem (l := b :: r) (by simpa using h1) (by simpa using h2))
theorem alo_at : ∀ {l : List Int} {t : List Int}, t ∈ alo l → ∃ i x y, l[i]? = some x ∧ l[i + 1]? = some y ∧ t = tie x y
  | [], _, h => by cases h
  | [_], _, h => by cases h
  | a :: b :: r, t, h => by
    rcases List.mem_cons.mp h with rfl | h
    · exact ⟨0, a, b, rfl, rfl, rfl⟩
    · obtain ⟨i, x, y, h1, h2, e⟩ := alo_at h
      exact ⟨i + 1, x, y, by simpa using h1, by simpa using h2, e⟩
theorem alo_len : ∀ l : List Int, (alo l).length = l.length - 1
  | [] => rfl
  | [_] => rfl
  | a :: b :: r => by
    show (alo (b :: r)).length + 1 = r.length + 1 + 1 - 1
    rw [alo_len (b :: r)]
    show r.length + 1 - 1 + 1 = _
    omega
/-- all ties along: of a row, of a ring -/
def alg (k : Bool × List Int) : List (List Int) := alo k.2 ++ if k.1 then [] else [tie (k.2.getD 0 0) (k.2.getD (k.2.length - 1) 0)]
/-- a row or a ring, closed in itself -/
structure Whole (D : List (List Int)) (k : Bool × List Int) : Prop where
  len : if k.1 = true then 2 ≤ k.2.length else 4 ≤ k.2.length
  nd : k.2.Nodup
  ndA : (alg k).Nodup
  inD : ∀ t ∈ alg k, t ∈ D
  pts : ∀ t ∈ alg k, ∃ x y, t = tie x y ∧ x ∈ k.2 ∧ y ∈ k.2
  all : ∀ p ∈ k.2, ∀ q ∈ nb D p, q ∈ k.2 ∧ tie p q ∈ alg k
section
variable {D : List (List Int)} {c : List Int → Bool} (T : Two D c) {start : Int} {pts : List Int} (W : Walked D start pts)
include T W
theorem W_inner {i : Nat} {x q : Int} (hi : 0 < i) (hj : i + 1 < pts.length) (e : pts[i]? = some x) (hq : q ∈ nb D x) : pts[i - 1]? = some q ∨ pts[i + 1]? = some q := by
  obtain ⟨y, ey⟩ : ∃ y, pts[i - 1]? = some y := ⟨pts[i - 1]'(by omega), by simp⟩
  obtain ⟨z, ez⟩ : ∃ z, pts[i + 1]? = some z := ⟨pts[i + 1]'(by omega), by simp⟩
  have a1 : x ∈ nb D y := W.ch (i - 1) y x ey (by rw [show i - 1 + 1 = i by omega]; exact e)
  have a2 : z ∈ nb D x := W.ch i x z e ez
  have ne : y ≠ z := fun w => by
    subst w
    have := (List.nodup_iff_pairwise_ne.mp W.nd)
    rw [List.pairwise_iff_getElem] at this
    obtain ⟨h1, e1⟩ := List.getElem?_eq_some_iff.mp ey
    obtain ⟨h2, e2⟩ := List.getElem?_eq_some_iff.mp ez
    exact this (i - 1) (i + 1) h1 h2 (by omega) (e1.trans e2.symm)
  rcases two_of T (nb_symm T.tie a1) a2 hq ne with w | w
  · exact .inl (w ▸ ey)
  · exact .inr (w ▸ ez)
theorem W_inj {i j : Nat} {x : Int} (h1 : pts[i]? = some x) (h2 : pts[j]? = some x) : i = j := by
  have := (List.nodup_iff_pairwise_ne.mp W.nd)
  rw [List.pairwise_iff_getElem] at this
  obtain ⟨a1, e1⟩ := List.getElem?_eq_some_iff.mp h1
  obtain ⟨a2, e2⟩ := List.getElem?_eq_some_iff.mp h2
  rcases Nat.lt_trichotomy i j with q | q | q
  · exact absurd (e1.trans e2.symm) (this i j a1 a2 q)
  · exact q
  · exact absurd (e2.trans e1.symm) (this j i a2 a1 q)
theorem W_irr {p : Int} (h : p ∈ nb D p) : False := ((mem_nb T.tie).mp h).1 rfl
/-- the last one's: the one before, or the first -/
theorem W_last {x q : Int} (e : pts[pts.length - 1]? = some x) (hq : q ∈ nb D x) : pts[pts.length - 2]? = some q ∨ (q = start ∧ 3 ≤ pts.length) := by
  have hl := W.len
  obtain ⟨j, hj, ej⟩ := List.getElem_of_mem (W.last x e q hq)
  have ej : pts[j]? = some q := by rw [← ej]; simp
  have n1 : j ≠ pts.length - 1 := fun z => by
    subst z
    rw [e] at ej
    cases ej
    exact W_irr T W hq
  by_cases z : j = pts.length - 2
  · exact .inl (z ▸ ej)
  · rcases Nat.eq_zero_or_pos j with q0 | q0
    · subst q0
      have := W.h0
      rw [ej] at this
      cases this
      exact .inr ⟨rfl, by omega⟩
    · exfalso
      rcases W_inner T W q0 (by omega) ej (nb_symm T.tie hq) with w | w
      · have := W_inj T W w e; omega
      · have := W_inj T W w e; omega
theorem W_aloD : ∀ t ∈ alo pts, t ∈ D := fun t ht => by
  obtain ⟨i, x, y, h1, h2, rfl⟩ := alo_at ht
  exact ((mem_nb T.tie).mp (W.ch i x y h1 h2)).2
theorem W_near {i j : Nat} {x q : Int} (h1 : pts[i]? = some x) (h2 : pts[j]? = some q) (h : j + 1 = i ∨ j = i + 1) : q ∈ pts ∧ tie x q ∈ alo pts := by
  refine ⟨List.mem_of_getElem? h2, ?_⟩
  rcases h with h | h
  · subst h
    rw [tie_comm]
    exact alo_mem h2 h1
  · subst h
    exact alo_mem h1 h2
theorem row_of (h1 : (nb D start).length = 1) : Whole D (true, pts) := by
  have hl := W.len
  obtain ⟨x1, e1⟩ : ∃ y, pts[1]? = some y := ⟨pts[1]'(by omega), by simp⟩
  have en : nb D start = [x1] := by
    have := W.h1
    rw [e1] at this
    match hh : nb D start, h1, this with
    | [u], _, z => simp at z; rw [z]
  have ea : alg (true, pts) = alo pts := by unfold alg; simp
  refine ⟨by simpa using hl, W.nd, by rw [ea]; exact alo_nd W.nd, by rw [ea]; exact W_aloD T W, by rw [ea]; exact fun t ht => alo_pts ht, fun p hp q hq => ?_⟩
  rw [ea]
  obtain ⟨i, hi, ei⟩ := List.getElem_of_mem hp
  have hi : i < pts.length := hi
  have ei : pts[i]? = some p := by rw [← ei]; simp
  rcases Nat.eq_zero_or_pos i with z | z
  · subst z
    have := W.h0
    rw [ei] at this
    cases this
    rw [en, List.mem_singleton] at hq
    subst hq
    exact W_near T W ei e1 (.inr rfl)
  · by_cases y : i + 1 < pts.length
    · rcases W_inner T W z y ei hq with w | w
      · exact W_near T W ei w (.inl (by omega))
      · exact W_near T W ei w (.inr rfl)
    · have : i = pts.length - 1 := by omega
      subst this
      rcases W_last T W ei hq with w | ⟨w, w3⟩
      · exact W_near T W ei w (.inl (by omega))
      · exfalso
        subst w
        have := nb_symm T.tie hq
        rw [en, List.mem_singleton] at this
        subst this
        have := W_inj T W ei e1
        omega
theorem ring_of (h2 : (nb D start).length ≠ 1) (he : ∀ p ∈ pts, (nb D p).length ≠ 1) : Whole D (false, pts) := by
  have hl := W.len
  obtain ⟨x1, e1⟩ : ∃ y, pts[1]? = some y := ⟨pts[1]'(by omega), by simp⟩
  obtain ⟨z, ez⟩ : ∃ y, pts[pts.length - 1]? = some y := ⟨pts[pts.length - 1]'(by omega), by simp⟩
  obtain ⟨y, ey⟩ : ∃ y, pts[pts.length - 2]? = some y := ⟨pts[pts.length - 2]'(by omega), by simp⟩
  have ha : z ∈ nb D y := W.ch (pts.length - 2) y z ey (by rw [show pts.length - 2 + 1 = pts.length - 1 by omega]; exact ez)
  have hy := nb_symm T.tie ha
  -- the last one has a further neighbour
  obtain ⟨q, hq, nq⟩ : ∃ q ∈ nb D z, q ≠ y := by
    have hn := he z (List.mem_of_getElem? ez)
    have nd := nb_nd T.tie T.nd z
    match hh : nb D z, hn, nd, hy with
    | [u], hn, _, _ => exact absurd rfl hn
    | u :: v :: r, _, nd, _ =>
      by_cases w : u = y
      · refine ⟨v, .tail _ (.head _), fun w2 => ?_⟩
        have := (List.nodup_cons.mp nd).1
        exact this (by rw [w, ← w2]; exact .head _)
      · exact ⟨u, .head _, w⟩
  obtain ⟨rfl, l3⟩ : q = start ∧ 3 ≤ pts.length := by
    rcases W_last T W ez hq with w | w
    · rw [ey] at w
      cases w
      exact absurd rfl nq
    · exact w
  have hz : z ∈ nb D q := nb_symm T.tie hq
  have hx1 : x1 ∈ nb D q := W.ch 0 q x1 W.h0 e1
  have n1z : x1 ≠ z := fun w => by
    subst w
    have := W_inj T W e1 ez
    omega
  have l4 : 4 ≤ pts.length := by
    rcases Nat.lt_or_ge 3 pts.length with w | w
    · exact w
    · exfalso
      have : pts.length = 3 := by omega
      rw [this] at ez
      have h12 : z ∈ nb D x1 := W.ch 1 x1 z e1 ez
      exact no_three T hx1 h12 hq
  have eg0 : pts.getD 0 0 = q := by simp [W.h0]
  have egl : pts.getD (pts.length - 1) 0 = z := by simp [ez]
  have ea : alg (false, pts) = alo pts ++ [tie q z] := by
    unfold alg
    show alo pts ++ (if false = true then [] else [tie (pts.getD 0 0) (pts.getD (pts.length - 1) 0)]) = _
    rw [if_neg (by decide), eg0, egl]
  have nin : tie q z ∉ alo pts := fun w => by
    obtain ⟨i, a, b, h1, h2, e⟩ := alo_at w
    rcases tie_inj e with ⟨w1, w2⟩ | ⟨w1, w2⟩
    · subst w1 w2
      have i1 := W_inj T W h1 W.h0
      have i2 := W_inj T W h2 ez
      omega
    · subst w1 w2
      have i1 := W_inj T W h2 W.h0
      omega
  have mq : q ∈ pts := List.mem_of_getElem? W.h0
  have mz : z ∈ pts := List.mem_of_getElem? ez
  refine ⟨by simpa using l4, W.nd, ?_, ?_, ?_, fun p hp r hr => ?_⟩
  · rw [ea, List.nodup_append]
    refine ⟨alo_nd W.nd, by simp, fun a ha b hb => ?_⟩
    rw [List.mem_singleton] at hb
    subst hb
    exact fun w => nin (w ▸ ha)
  · rw [ea]
    intro t ht
    rcases List.mem_append.mp ht with w | w
    · exact W_aloD T W t w
    · rw [List.mem_singleton] at w
      subst w
      exact ((mem_nb T.tie).mp hz).2
  · rw [ea]
    intro t ht
    rcases List.mem_append.mp ht with w | w
    · exact alo_pts w
    · rw [List.mem_singleton] at w
      exact ⟨q, z, w, mq, mz⟩
  · rw [ea]
    have lift : r ∈ pts ∧ tie p r ∈ alo pts → r ∈ pts ∧ tie p r ∈ alo pts ++ [tie q z] := fun w => ⟨w.1, List.mem_append_left _ w.2⟩
    obtain ⟨i, hi, ei⟩ := List.getElem_of_mem hp
    have hi : i < pts.length := hi
    have ei : pts[i]? = some p := by rw [← ei]; simp
    rcases Nat.eq_zero_or_pos i with w0 | w0
    · subst w0
      have := W.h0
      rw [ei] at this
      cases this
      rcases two_of T hx1 hz hr n1z with w | w
      · subst w
        exact lift (W_near T W ei e1 (.inr rfl))
      · subst w
        exact ⟨mz, List.mem_append_right _ (.head _)⟩
    · by_cases y1 : i + 1 < pts.length
      · rcases W_inner T W w0 y1 ei hr with w | w
        · exact lift (W_near T W ei w (.inl (by omega)))
        · exact lift (W_near T W ei w (.inr rfl))
      · have : i = pts.length - 1 := by omega
        subst this
        rw [ez] at ei
        cases ei
        rcases W_last T W ez hr with w | ⟨w, _⟩
        · exact lift (W_near T W ez w (.inl (by omega)))
        · subst w
          exact ⟨mq, List.mem_append_right _ (by rw [tie_comm]; exact .head _)⟩
end
/-- rows and rings found so far -/
structure Found (D : List (List Int)) (F : List (Bool × List Int)) : Prop where
  wh : ∀ k ∈ F, Whole D k
  nd : (F.flatMap (·.2)).Nodup
  ndA : (F.flatMap alg).Nodup
theorem Found.nil {D : List (List Int)} : Found D [] := ⟨fun _ h => (nomatch h), List.nodup_nil, List.nodup_nil⟩
theorem Found.closed {D : List (List Int)} {F : List (Bool × List Int)} (h : Found D F) {p q : Int} (hp : p ∈ F.flatMap (·.2)) (hq : q ∈ nb D p) : q ∈ F.flatMap (·.2) := by
  obtain ⟨k, hk, hp⟩ := List.mem_flatMap.mp hp
  exact List.mem_flatMap.mpr ⟨k, hk, ((h.wh k hk).all p hp q hq).1⟩
theorem Found.apart {D : List (List Int)} {c : List Int → Bool} (T : Two D c) {F : List (Bool × List Int)} (h : Found D F) {start : Int} {pts : List Int} (W : Walked D start pts) (hs : start ∉ F.flatMap (·.2)) : ∀ p ∈ pts, p ∉ F.flatMap (·.2) := by
  have key : ∀ (i : Nat) (x : Int), pts[i]? = some x → x ∉ F.flatMap (·.2) := by
    intro i
    induction i with
    | zero =>
      intro x e
      have := W.h0
      rw [e] at this
      cases this
      exact hs
    | succ i ih =>
      intro x e z
      obtain ⟨hl, _⟩ := List.getElem?_eq_some_iff.mp e
      obtain ⟨y, ey⟩ : ∃ y, pts[i]? = some y := ⟨pts[i]'(by omega), by simp⟩
      exact ih y ey (h.closed z (nb_symm T.tie (W.ch i y x ey e)))
  intro p hp
  obtain ⟨i, hi, ei⟩ := List.getElem_of_mem hp
  exact key i p (by rw [← ei]; simp)
theorem Found.snoc {D : List (List Int)} {F : List (Bool × List Int)} (h : Found D F) {k : Bool × List Int} (hk : Whole D k) (ha : ∀ p ∈ k.2, p ∉ F.flatMap (·.2)) : Found D (F ++ [k]) := by
  have e1 : (F ++ [k]).flatMap (·.2) = F.flatMap (·.2) ++ k.2 := by simp
  have e2 : (F ++ [k]).flatMap alg = F.flatMap alg ++ alg k := by simp
  refine ⟨fun j hj => ?_, ?_, ?_⟩
  · rcases List.mem_append.mp hj with w | w
    · exact h.wh j w
    · rw [List.mem_singleton] at w
      exact w ▸ hk
  · rw [e1, List.nodup_append]
    exact ⟨h.nd, hk.nd, fun a ha' b hb w => ha b hb (w ▸ ha')⟩
  · rw [e2, List.nodup_append]
    refine ⟨h.ndA, hk.ndA, fun a ha' b hb w => ?_⟩
    subst w
    obtain ⟨x, y, rfl, hx, hy⟩ := hk.pts a hb
    obtain ⟨j, hj, hm⟩ := List.mem_flatMap.mp ha'
    obtain ⟨u, v, e, hu, hv⟩ := (h.wh j hj).pts _ hm
    rcases tie_inj e with w | w
    · exact ha x hx (List.mem_flatMap.mpr ⟨j, hj, w.1 ▸ hu⟩)
    · exact ha x hx (List.mem_flatMap.mpr ⟨j, hj, w.1 ▸ hv⟩)
/-- all points met: all ties, each once -/
theorem Found.perm {D : List (List Int)} {c : List Int → Bool} (T : Two D c) {F : List (Bool × List Int)} (h : Found D F) (hm : ∀ p, nb D p ≠ [] → p ∈ F.flatMap (·.2)) : (F.flatMap alg).Perm D := by
  rw [List.perm_ext_iff_of_nodup h.ndA T.nd]
  intro t
  constructor
  · intro ht
    obtain ⟨k, hk, ht⟩ := List.mem_flatMap.mp ht
    exact (h.wh k hk).inD t ht
  · intro ht
    obtain ⟨a, b, rfl, hab⟩ := T.tie t ht
    have hb : b ∈ nb D a := (mem_nb T.tie).mpr ⟨by omega, by rw [tie_lt hab]; exact ht⟩
    have ha := hm a (fun z => by rw [z] at hb; cases hb)
    obtain ⟨k, hk, ha⟩ := List.mem_flatMap.mp ha
    have := ((h.wh k hk).all a ha b hb).2
    rw [tie_lt hab] at this
    exact List.mem_flatMap.mpr ⟨k, hk, this⟩
/-- a choice: ties, no point in two of them -/
def Mat (O : List (List Int)) : Prop := (∀ t ∈ O, Tie t) ∧ O.flatten.Nodup
theorem Mat.one {O : List (List Int)} (h : Mat O) : ∀ t ∈ O, ∀ u ∈ O, ∀ p, p ∈ t → p ∈ u → t = u := by
  obtain ⟨h1, h2⟩ := h
  induction O with
  | nil => intro t ht; cases ht
  | cons v O ih =>
    rw [List.flatten_cons, List.nodup_append] at h2
    obtain ⟨_, n2, n3⟩ := h2
    intro t ht u hu p hp hq
    rcases List.mem_cons.mp ht with e1 | ht2 <;> rcases List.mem_cons.mp hu with e2 | hu2
    · rw [e1, e2]
    · rw [e1] at hp
      exact absurd rfl (n3 p hp p (List.mem_flatten.mpr ⟨u, hu2, hq⟩))
    · rw [e2] at hq
      exact absurd rfl (n3 p hq p (List.mem_flatten.mpr ⟨t, ht2, hp⟩))
    · exact ih (fun w hw => h1 w (.tail _ hw)) n2 t ht2 u hu2 p hp hq
theorem Mat.nd {O : List (List Int)} (h : Mat O) : O.Nodup := by
  obtain ⟨h1, h2⟩ := h
  induction O with
  | nil => exact List.nodup_nil
  | cons v O ih =>
    rw [List.flatten_cons, List.nodup_append] at h2
    obtain ⟨_, n2, n3⟩ := h2
    refine List.nodup_cons.mpr ⟨fun z => ?_, ih (fun w hw => h1 w (.tail _ hw)) n2⟩
    obtain ⟨a, b, rfl, _⟩ := h1 v (.head _)
    exact n3 a (.head _) a (List.mem_flatten.mpr ⟨_, z, .head _⟩) rfl
theorem Mat.perm {O O' : List (List Int)} (h : Mat O) (p : O'.Perm O) : Mat O' := ⟨fun t ht => h.1 t (p.mem_iff.mp ht), p.flatten.nodup_iff.mpr h.2⟩
/-- ties in just one of both -/
def onl (O T : List (List Int)) : List (List Int) := O.filter fun t => !decide (t ∈ T)
def dif (O T : List (List Int)) : List (List Int) := onl O T ++ onl T O
theorem mem_onl {O T : List (List Int)} {t : List Int} : t ∈ onl O T ↔ t ∈ O ∧ t ∉ T := by
  unfold onl
  rw [List.mem_filter]
  simp
theorem dif_two {O T : List (List Int)} (hO : Mat O) (hT : Mat T) : Two (dif O T) (fun t => decide (t ∈ O)) := by
  have side : ∀ t ∈ dif O T, (t ∈ O ∧ t ∉ T) ∨ (t ∈ T ∧ t ∉ O) := fun t ht => by
    rcases List.mem_append.mp ht with w | w
    · exact .inl (mem_onl.mp w)
    · exact .inr (mem_onl.mp w)
  refine ⟨fun t ht => ?_, ?_, fun t ht u hu ne p hp hq => ?_⟩
  · rcases side t ht with w | w
    · exact hO.1 t w.1
    · exact hT.1 t w.1
  · unfold dif
    rw [List.nodup_append]
    refine ⟨hO.nd.filter _, hT.nd.filter _, fun a ha b hb w => ?_⟩
    subst w
    exact (mem_onl.mp hb).2 (mem_onl.mp ha).1
  · rcases side t ht with w | w <;> rcases side u hu with v | v
    · exact absurd (hO.one t w.1 u v.1 p hp hq) ne
    · simp [w.1, v.2]
    · simp [w.2, v.1]
    · exact absurd (hT.one t w.1 u v.1 p hp hq) ne
end Bt

/-! ### len(set(x)), x a list of ints -/
namespace L2
open PySem PySem.Spec PyProof.Rows
/-- how many unlike numbers -/
def unlike (t : List Int) : Nat := (firstMet (fun i => t.getD i 0) t.length).length
theorem met_le (f : Nat → Int) : ∀ n, (firstMet f n).length = n ↔ ∀ i j, i < j → j < n → f i ≠ f j
  | 0 => ⟨fun _ i j _ h => absurd h (Nat.not_lt_zero _), fun _ => rfl⟩
  | n + 1 => by
    have ih := met_le f n
    have le := firstMet_length_le f n
    have an := firstMet_any f n (f n)
    rw [firstMet_succ, step_length]
    cases q : (firstMet f n).any (· == f n) with
    | true =>
      rw [if_pos rfl]
      refine ⟨fun e => absurd e (by omega), fun h => ?_⟩
      exfalso
      rw [q] at an
      obtain ⟨x, hx, ex⟩ := List.any_eq_true.mp an.symm
      obtain ⟨i, hi, rfl⟩ := List.mem_map.mp hx
      exact h i n (List.mem_range.mp hi) (Nat.lt_succ_self n) (beq_iff_eq.mp ex)
    | false =>
      rw [if_neg Bool.false_ne_true]
      refine ⟨fun e i j hij hj => ?_, fun h => by rw [ih.mpr fun i j hij hj => h i j hij (by omega)]⟩
      rcases Nat.lt_or_ge j n with z | z
      · exact ih.mp (by omega) i j hij z
      · obtain rfl : j = n := by omega
        intro z
        rw [q] at an
        have : ((List.range j).map f).any (· == f j) = true := List.any_eq_true.mpr ⟨f i, List.mem_map.mpr ⟨i, List.mem_range.mpr hij, rfl⟩, by simp [z]⟩
        rw [← an] at this
        cases this
theorem unlike_len {t : List Int} : unlike t = t.length ↔ t.Nodup := by
  unfold unlike
  rw [met_le]
  constructor
  · intro h
    show t.Pairwise (· ≠ ·)
    rw [List.pairwise_iff_getElem]
    intro i j hi hj hij
    have := h i j hij hj
    simpa [hi, hj] using this
  · intro h i j hij hj
    have h : t.Pairwise (· ≠ ·) := h
    rw [List.pairwise_iff_getElem] at h
    have := h i j (by omega) hj hij
    have hi : i < t.length := by omega
    simpa [hi, hj] using this
def tLenSet (K : PySem.W.Frag) (ta : TA) : TE := fun σ H Q => ta σ H fun vs H1 => ∃ (a : Addr) (t : List Int), vs = [.ref a] ∧ SqL K H1 a (t.map V.int) ∧ t.length ≤ 1000 ∧ Q (.int (unlike t)) H1
theorem boot_set : bootBuiltins "set" = some (.type "set") := by decide +kernel
theorem pe_lenSet {X : Cx} {a : Expr} {ta : TA} {p q pos pos' : Pos} (hg : Gl X "len") (hm : X.mg "len" = none) (hg2 : Gl X "set") (hm2 : X.mg "set" = none) (hc : X.calm = true) (ha : PA X [a] ta) (hs : starEach [a] X.env = [(false, eval a X.env)] := by rfl)
    (ht : backTo pos (starEach [.Call (.Name "set" q) [a] [] pos'] X.env) = [(false, eval (.Call (.Name "set" q) [a] [] pos') X.env)] := by rfl) :
    PE X (.Call (.Name "len" p) [.Call (.Name "set" q) [a] [] pos'] [] pos) (tLenSet X.K ta) := by
  intro pins s σ H Q I h
  refine Call_ (ld_blt I hg hm PySem.boot_len ?_)
  rw [ht]
  refine Calls.callWith_builtin rfl (Calls.evalArgs_plain ?_)
  refine Calls.spliced_cons (Call_ (ld_blt I hg2 hm2 boot_set (PyProof.Rows.callWith_type1 (thn (ha pos' pins s σ H _ I h) fun us s1 ⟨vs, H1, I1, r1, q1⟩ => ?_) hs rfl)))
  obtain ⟨b, t, rfl, hx, lt, k⟩ := q1
  obtain ⟨u, rfl, ru⟩ := Vals.one r1
  cases ru
  obtain ⟨its, rv, pl, hz⟩ := I1.list hx
  have le := Vals.length rv
  rw [List.length_map] at le
  refine call_set_list (items := its.toArray) (ns := t) (I.ok.hd hc) pl.isList (by simpa using intsAre_of rv) (by simp [scanBound]; omega) fun h2 tk hS kp => Calls.spliced_nil ?_
  obtain ⟨o, es, ep, tb, e1, e2, e3, _, _, _, e7, e8⟩ := hS
  have I2 : Inv X pins σ H1 { s1 with heap := h2, toks := tk } := I1.kept fun c o e => kp c o (Heap.lt_size e) e
  refine call_len_set (s := { s1 with heap := h2, toks := tk }) e1 e2 e3 e7 ?_ ⟨.int (unlike t), H1, I2.tok _, ⟨tk + 1, ?_⟩, k⟩
  · rw [e8]
    have := firstMet_length_le (fun i => t.getD i 0) its.toArray.size
    have h3 : its.toArray.size = t.length := by simp [le]
    omega
  · rw [e8]
    unfold unlike
    rw [show its.toArray.size = t.length by simp [le]]
end L2

/-! ### rules: setdefault, not in, lists of ties; the dict of neighbours -/
namespace L2
open PySem PySem.Spec PyProof.Rows
section
variable {X : Cx} {pins : List (Addr × Obj)} {σ : St} {H : Hp} {s : Shared}
/-- d.setdefault(k, x) -/
theorem mt_setdef : MtM X "dict.setdefault" (fun x vs H Q => ∃ (a : Addr) (kvs : List (Key × V)) (k : Key) (z : V), x = .ref a ∧ vs = [kV k, z] ∧ H a = some (.dK kvs) ∧ kvs.length < sizeLine ∧
    (∀ v, valV kvs k = some v → Q v H) ∧ (valV kvs k = none → Q z (upd H a (.dK (putK kvs k z))))) := by
  intro pins s σ H x vs v us Q I rx rv h
  obtain ⟨a, kvs, k, z, rfl, rfl, e, hl, h1, h2⟩ := h
  cases rx
  obtain ⟨u, r, rfl, ru, rr⟩ := vals2 rv
  obtain ⟨zz, hd, vs, rel, dd⟩ := dk_of I.hok e
  refine call_meetsIn PySem.F.slot_dict_setdefault dd.typeIs PySem.F.entry_dict_setdefault (PySem.F.args_dict_setdefault_3 _ _ _) (kt_meets_setdefault (mixKind X.prog X.w) a (kV_is ru) hd r)
    ⟨vs, dd, by rw [← rel.length]; exact zz, fun v' hv' => ?_, fun hn h' dd' hs => ?_⟩
  · cases q : valV kvs k with
    | none =>
      have := RelO.none_of (o := valueAt vs k) (by rw [← q]; exact rel.val k)
      rw [this] at hv'
      cases hv'
    | some y =>
      obtain ⟨w', hw, rw'⟩ := RelO.some_of (v := y) (o := valueAt vs k) (by rw [← q]; exact rel.val k)
      rw [hw] at hv'
      cases hv'
      exact ⟨y, H, I.tok _, rw', h1 y q⟩
  · have q : valV kvs k = none := by
      cases q : valV kvs k with
      | none => rfl
      | some y =>
        obtain ⟨w', hw, _⟩ := RelO.some_of (v := y) (o := valueAt vs k) (by rw [← q]; exact rel.val k)
        rw [hw] at hn
        cases hn
    have he : ∃ q, h'.get? a = some q := let ⟨q, _, _, hq, _⟩ := dd'; ⟨q, hq⟩
    have hl' : (putK kvs k z).length ≤ sizeLine := by have := length_putK kvs k z; omega
    exact ⟨z, _, d_write I (by rw [e]; exact True.intro) hs he (dk_new hl' hd (rel.put k rr) dd'), rr, h2 q⟩
theorem op_notInTK {X : Cx} (K : PySem.W.Frag) (h : X.K = K) (hu : X.A.units + 1 < cLine) : OpR X (compareOp .NotIn) (fun x y H Q => ∃ b t p rs ts, x = .ref b ∧ H b = some (.tup (t.map V.int)) ∧ y = .ref p ∧ SqL K H p (rs.map V.ref) ∧ TupsH H rs ts ∧ Q (.bl (!ts.any fun u => decide (u = t))) H) := by subst h; exact op_notInT hu
theorem op_notInSK {X : Cx} (K : PySem.W.Frag) (h : X.K = K) : OpR X (compareOp .NotIn) (rIn K true) := by subst h; exact op_notIn_seq
theorem call_lenK {X : Cx} (K : PySem.W.Frag) (h : X.K = K) : CallR X (.builtin "len") (fun xs H Q => ∃ p ys, xs = [.ref p] ∧ (SqL K H p ys ∨ SqT K H p ys) ∧ Q (.int ys.length) H) := by subst h; exact call_len_seq
theorem any_mem (us : List (List Int)) (t : List Int) : (us.any fun u => decide (u = t)) = decide (t ∈ us) := by
  rw [Bool.eq_iff_iff, decide_eq_true_iff, List.any_eq_true]
  exact ⟨fun ⟨u, hu, e⟩ => of_decide_eq_true e ▸ hu, fun h => ⟨t, h, decide_eq_true rfl⟩⟩
theorem TupsH.sm {H H' : Hp} {rs : List Addr} {ts : List (List Int)} (h : TupsH H rs ts) (z : Same H H') : TupsH H' rs ts := paired_imp (fun _ _ x => ⟨z _ _ x.1, x.2⟩) h
theorem TupsH.tu {H H' : Hp} {rs : List Addr} {ts : List (List Int)} (h : TupsH H rs ts) (z : ∀ b xs, H b = some (.tup xs) → H' b = some (.tup xs)) : TupsH H' rs ts := paired_imp (fun _ _ x => ⟨z _ _ x.1, x.2⟩) h
theorem tie_at {rs : List Addr} {ts : List (List Int)} {H : Hp} {i : Nat} {x : V} (h : TupsH H rs ts) (e : (rs.map V.ref)[i]? = some x) : ∃ r t, x = .ref r ∧ ts[i]? = some t ∧ H r = some (.tup (t.map V.int)) ∧ t ≠ [] := by
  rw [List.getElem?_map] at e
  obtain ⟨q, eq, rfl⟩ := Option.map_eq_some_iff.mp e
  obtain ⟨s, es, hs⟩ := Sx.pair_at h eq
  exact ⟨q, s, rfl, es, hs⟩
end
/-- the dict of neighbours -/
structure NbS (H H0 : Hp) (dn : Addr) (E : List (Int × Int)) (kvs : List (Key × V)) : Prop where
  hd : H dn = some (.dK kvs)
  ks : ∃ ks : List Int, kvs.map (·.1) = ks.map Sum.inl
  nd : (kvs.map (·.1)).Nodup
  at_ : ∀ p v, valV kvs (.inl p) = some v → ∃ a, v = .ref a ∧ H a = some (.lst ((Bt.nbE E p).map V.int)) ∧ H0 a = none ∧ a ≠ dn
  inj : ∀ p q a, valV kvs (.inl p) = some (.ref a) → valV kvs (.inl q) = some (.ref a) → p = q
  iff : ∀ p, valV kvs (.inl p) = none ↔ Bt.nbE E p = []
  len : kvs.length ≤ E.length
  h0 : H0 dn = none
theorem NbS.same {H H' H0 : Hp} {dn : Addr} {E : List (Int × Int)} {kvs : List (Key × V)} (N : NbS H H0 dn E kvs) (z : Same H H') : NbS H' H0 dn E kvs :=
  ⟨z _ _ N.hd, N.ks, N.nd, fun p v e => let ⟨a, h1, h2, h3⟩ := N.at_ p v e; ⟨a, h1, z _ _ h2, h3⟩, N.inj, N.iff, N.len, N.h0⟩
theorem NbS.there {H H0 : Hp} {dn : Addr} {E : List (Int × Int)} {kvs : List (Key × V)} (N : NbS H H0 dn E kvs) {x y : Int} {a : Addr} (hv : valV kvs (.inl x) = some (.ref a)) :
    NbS (upd H a (.lst ((Bt.nbE E x).map V.int ++ [.int y]))) H0 dn (E ++ [(x, y)]) kvs := by
  obtain ⟨a', e, ha, h0, nd⟩ := N.at_ x _ hv
  cases e
  refine ⟨by rw [upd_ne (Ne.symm nd)]; exact N.hd, N.ks, N.nd, fun p v e => ?_, N.inj, fun p => ?_, by rw [List.length_append]; have := N.len; omega, N.h0⟩
  · obtain ⟨b, rfl, hb, hb0, nb⟩ := N.at_ p v e
    refine ⟨b, rfl, ?_, hb0, nb⟩
    rw [Bt.nbE_snoc]
    by_cases c : x = p
    · subst c
      rw [hv] at e
      cases e
      rw [upd_same, if_pos rfl, List.map_append]
      rfl
    · rw [upd_ne (fun z => c (by subst z; exact N.inj x p _ hv e)), if_neg c, List.append_nil]
      exact hb
  · rw [Bt.nbE_snoc]
    by_cases c : x = p
    · subst c
      rw [if_pos rfl, hv]
      constructor
      · intro z; cases z
      · intro z; simp at z
    · rw [if_neg c, List.append_nil]
      exact N.iff p
theorem NbS.new {H H0 : Hp} {dn : Addr} {E : List (Int × Int)} {kvs : List (Key × V)} (N : NbS H H0 dn E kvs) {x y : Int} {l : Addr} (hv : valV kvs (.inl x) = none) (hl : H l = none) (hl0 : H0 l = none) :
    NbS (upd (upd (upd H l (.lst [])) dn (.dK (putK kvs (.inl x) (.ref l)))) l (.lst [.int y])) H0 dn (E ++ [(x, y)]) (putK kvs (.inl x) (.ref l)) := by
  have nl : dn ≠ l := ne_of_none N.hd hl
  have em := (N.iff x).mp hv
  obtain ⟨ks, ek⟩ := N.ks
  refine ⟨by rw [upd_ne nl, upd_same], ⟨ks ++ [x], ?_⟩, nd_putK _ N.nd hv, fun p v e => ?_, fun p q a e1 e2 => ?_, fun p => ?_, ?_, N.h0⟩
  · rw [putK_new _ hv, List.map_append, List.map_append, ek]; rfl
  · rw [valV_put] at e
    rw [Bt.nbE_snoc]
    by_cases c : p = x
    · subst c
      rw [if_pos rfl] at e
      cases e
      refine ⟨l, rfl, ?_, hl0, Ne.symm nl⟩
      rw [upd_same, if_pos rfl, em]
      rfl
    · rw [if_neg (fun z => c (by injection z))] at e
      obtain ⟨b, rfl, hb, hb0, nb⟩ := N.at_ p v e
      refine ⟨b, rfl, ?_, hb0, nb⟩
      have n1 : b ≠ l := ne_of_none hb hl
      rw [upd_ne n1, upd_ne nb, upd_ne n1, if_neg (Ne.symm c), List.append_nil]
      exact hb
  · rw [valV_put] at e1 e2
    have old : ∀ r, ¬ (Sum.inl r : Key) = .inl x → valV kvs (.inl r) = some (.ref l) → False := fun r _ h => by
      obtain ⟨b, eb, hb, _⟩ := N.at_ r _ h
      cases eb
      rw [hl] at hb
      cases hb
    by_cases c1 : (Sum.inl p : Key) = .inl x <;> by_cases c2 : (Sum.inl q : Key) = .inl x
    · injection c1 with c1; injection c2 with c2; rw [c1, c2]
    · rw [if_pos c1] at e1; rw [if_neg c2] at e2
      cases e1
      exact (old q c2 e2).elim
    · rw [if_neg c1] at e1; rw [if_pos c2] at e2
      cases e2
      exact (old p c1 e1).elim
    · rw [if_neg c1] at e1; rw [if_neg c2] at e2
      exact N.inj p q a e1 e2
  · rw [valV_put, Bt.nbE_snoc]
    by_cases c : p = x
    · subst c
      rw [if_pos rfl, if_pos rfl]
      constructor
      · intro z; cases z
      · intro z; simp at z
    · rw [if_neg (fun z => c (by injection z)), if_neg (Ne.symm c), List.append_nil]
      exact N.iff p
  · have h1 := length_putK kvs (Sum.inl x : Key) (V.ref l)
    have h2 := N.len
    rw [List.length_append]
    show _ ≤ _ + 1
    omega
theorem NbS.get {H H0 : Hp} {dn : Addr} {E : List (Int × Int)} {kvs : List (Key × V)} (N : NbS H H0 dn E kvs) {p : Int} (h : Bt.nbE E p ≠ []) : ∃ a, DGet H dn (.int p) (some (.ref a)) ∧ H a = some (.lst ((Bt.nbE E p).map V.int)) := by
  cases q : valV kvs (.inl p) with
  | none => exact absurd ((N.iff p).mp q) h
  | some v =>
    obtain ⟨a, rfl, ha, _⟩ := N.at_ p v q
    have : DGet H dn (.int p) (valV kvs (.inl p)) := DGet.k (k := .inl p) N.hd
    rw [q] at this
    exact ⟨a, this, ha⟩
end L2

/-! ### k25: only_in, neighbours_by, followed -/
namespace K25
open PySem L2 PyProof.Rows
def top (i : Nat) : Stmt := PySem.Challenge.pw_pairsheath_k25_between_two_choices.main.body.getD i (.Pass ⟨0, 0, 0, 0⟩)
abbrev sOnly : Stmt := top 1
abbrev sNby : Stmt := top 2
abbrev sFoll : Stmt := top 3
abbrev sBetw : Stmt := top 4
abbrev sCell : Stmt := top 6
abbrev sWhole : Stmt := top 7
abbrev sTie : Stmt := top 8
abbrev sOrder : Stmt := top 9
abbrev sPiece : Stmt := top 10
abbrev sTwo : Stmt := top 11
abbrev sAlong : Stmt := top 12
abbrev sRight : Stmt := top 13
abbrev sLaw : Stmt := top 14
section
variable {P : Program} {w : World} {K : PySem.W.Frag} {mg : Str → Option Value} {base : Heap}
def outI (t u : List Int) : List Int := t.filter fun x => !decide (x ∈ u)
def spOnly : Sp := fun vs H Q _ => ∃ a b : Addr, vs = [.ref a, .ref b] ∧
  ((∃ t u : List Int, H a = some (.lst (t.map V.int)) ∧ H b = some (.lst (u.map V.int)) ∧ t.length ≤ 900 ∧ ∀ l H', H l = none → Same H H' → H' l = some (.lst ((outI t u).map V.int)) → Q (.ref l) H') ∨
   ∃ (rs qs : List Addr) (ts us : List (List Int)), H a = some (.lst (rs.map V.ref)) ∧ H b = some (.lst (qs.map V.ref)) ∧ TupsH H rs ts ∧ TupsH H qs us ∧ ts.length ≤ 900 ∧ ∀ l zs H', H l = none → Same H H' → H' l = some (.lst (zs.map V.ref)) → TupsH H' zs (Bt.onl ts us) → Q (.ref l) H')
theorem scOnly : FnScope ["one", "other"] ["one", "other"] (defScope sOnly) := ⟨rfl, rfl, rfl, by decide +kernel, rfl, by decide +kernel, by decide +kernel⟩
abbrev XO (P : Program) (w : World) (K : PySem.W.Frag) (mg : Str → Option Value) (base : Heap) (f : Addr) (cdv : Value) (A : Around) (outer : List Env) (s : Shared) (H : Hp) (E : XK) : Cx := (cxOf CX0 P w K mg base ["one", "other"] "only_in" (defScope sOnly) f cdv A outer s H E).nox
def compO : Scope := { kind := .function, names := [(Str.ofString ".0", .local), (Str.ofString "tie", .local), (Str.ofString "other", .free)], isGenerator := false, isCoroutine := false, more := [] }
theorem nd_compO : ([".0", "tie", "other"] : List Str).Nodup := by decide +kernel
theorem capsO {f : Addr} {cdv : Value} {A : Around} {outer : List Env} {s : Shared} {H : Hp} {E : XK} : Caps (XO P w K mg base f cdv A outer s H E) compO [(Str.ofString "other", s.heap.objs.size + 1)] [".0", "tie"] ["other"] [1] := by
  have e1 : (XO P w K mg base f cdv A outer s H E).env.cells = [(Str.ofString "other", s.heap.objs.size + 1)] := by rfl
  have e2 : (relabel compO (XO P w K mg base f cdv A outer s H E).env).names = [(Str.ofString ".0", .local), (Str.ofString "tie", .local), (Str.ofString "other", .cell)] := by rfl
  refine ⟨rfl, fun x c h => ?_, rfl, by decide +kernel, by decide +kernel, fun x hx => ?_, rfl, fun i x e => ?_⟩
  · have hx : (x = Str.ofString "other" ∧ c = s.heap.objs.size + 1) := by
      have := PySem.mem_of_lookup h
      simpa using this
    obtain ⟨rfl, rfl⟩ := hx
    rw [e1]; rfl
  · rw [e2] at hx
    have hx : x = Str.ofString "other" := by
      rcases hx with hx | hx
      all_goals
        have := PySem.mem_of_lookup hx
        simpa using this
    subst hx
    exact ⟨_, rfl⟩
  · match i, e with
    | 0, e =>
      cases (Option.some.inj e)
      exact ⟨1, rfl, rfl, rfl, rfl, by rw [e2]; rfl⟩
    | n + 1, e => cases e

theorem ok_only {f : Addr} {fd : FuncData} (F : Fun K "only_in" "only_in" sOnly f fd) : FnOk P w K mg base CX0 1 f fd ["one", "other"] spOnly := by
  refine F.ok scOnly (fun vs H Q E h => ?_) (fun cdv A outer s H vs Q E hr h => ?_)
  · obtain ⟨a, b, rfl, _⟩ := h
    rfl
  · obtain ⟨a, b, rfl, h⟩ := h
    have hu := hu_of hr
    refine' ⟨_, pss_one (ps_ret ?cc), ?_⟩
    case cc => exact pe_comp (g := gName 1) (own := [".0", "tie"]) (caps := ["other"]) (js := [1]) rfl capsO (pi_list (pv 0)) (fun pins C s H1 fp => pg_name (i := 1) nd_compO rfl (Or.inl rfl) (Or.inr rfl)) (fun pins C s H1 fp => pts_one (pt_cmpR ((op_notInSK K rfl).or (op_notInTK K rfl hu)) (pv 1) (pv 2) (by with_unfolding_all rfl))) (fun pins C s H1 fp => pv 1)
    rcases h with ⟨t, u, ha, hb, lt, hQ⟩ | ⟨rs, qs, ts, us, ha, hb, hT, hU, lt, hQ⟩
    · refine ⟨_, rfl, a, rfl, ⟨_, SqL.of ha⟩, fun D hD => ?_⟩
      refine turns_list (K := K) (a := a) (xs := t.map V.int) (fun i ys σ H5 => ∃ (e0 e1 : Option V), ys = (outI (t.take i) u).map V.int ∧ σ = [e0, e1, some (.ref b)] ∧ Same H H5 ∧ H5 D = some (.lst ys)) ⟨none, none, rfl, rfl, Same.new' hD, upd_same⟩ ?_ ?_ ?_
      · rintro i ys σ H5 ⟨e0, e1, rfl, rfl, s5, h5⟩
        refine ⟨h5, small1000 ?_, SqL.of (s5 a _ ha)⟩
        have := List.length_filter_le (fun x => !decide (x ∈ u)) (t.take i)
        rw [List.length_take] at this
        rw [List.length_map]
        unfold outI
        omega
      · rintro i x ys σ H5 hi ⟨e0, e1, rfl, rfl, s5, h5⟩
        have hil : i < (t.map V.int).length := (List.getElem?_eq_some_iff.mp hi).1
        obtain ⟨y, rfl, ey⟩ := map_int_at hi
        have ef : outI (t.take (i + 1)) u = outI (t.take i) u ++ outI [y] u := by
          unfold outI
          rw [List.take_succ, ey, List.filter_append]; rfl
        unfold gName
        dsimp only
        refine ⟨_, rfl, _, rfl, .inl ⟨b, _, rfl, .inl (SqL.of (s5 b _ hb)), rfl, flat_ints u, _, rfl, ?_⟩⟩
        rw [if_pos rfl, inV_ints]
        refine ite2 (fun c => ?_) (fun c => ?_)
        · rw [show outI [y] u = [y] by unfold outI; rw [List.filter_cons, if_pos c]; rfl] at ef
          refine ⟨_, rfl, h5, Nxt.mk hil ⟨_, _, by rw [ef, List.map_append]; rfl, rfl, fun b o e => ?_, upd_same⟩⟩
          rw [upd_ne (ne_of_none e hD)]; exact s5 b o e
        · rw [show outI [y] u = [] by unfold outI; rw [List.filter_cons, if_neg c]; rfl, List.append_nil] at ef
          exact Nxt.mk hil ⟨_, _, by rw [ef], rfl, s5, h5⟩
      · rintro ys σ0 H5 ⟨e0, e1, rfl, rfl, s5, h5⟩
        rw [List.length_map, List.take_length] at h5
        exact hQ D H5 hD s5 h5
    · have lq := Paired.length hT
      refine ⟨_, rfl, a, rfl, ⟨_, SqL.of ha⟩, fun D hD => ?_⟩
      refine turns_list (K := K) (a := a) (xs := rs.map V.ref) (fun i ys σ H5 => ∃ (zs : List Addr) (e0 e1 : Option V), ys = zs.map V.ref ∧ σ = [e0, e1, some (.ref b)] ∧ Same H H5 ∧ H5 D = some (.lst ys) ∧ TupsH H5 zs (Bt.onl (ts.take i) us)) ⟨[], none, none, rfl, rfl, Same.new' hD, upd_same, .nil⟩ ?_ ?_ ?_
      · rintro i ys σ H5 ⟨zs, e0, e1, rfl, rfl, s5, h5, hz⟩
        refine ⟨h5, small1000 ?_, SqL.of (s5 a _ ha)⟩
        have h1 := Paired.length hz
        have := List.length_filter_le (fun x => !decide (x ∈ us)) (ts.take i)
        rw [List.length_take] at this
        rw [List.length_map, h1]
        unfold Bt.onl
        omega
      · rintro i x ys σ H5 hi ⟨zs, e0, e1, rfl, rfl, s5, h5, hz⟩
        have hil : i < (rs.map V.ref).length := (List.getElem?_eq_some_iff.mp hi).1
        obtain ⟨r, y, rfl, ey, hr5, ny⟩ := tie_at (TupsH.sm hT s5) hi
        have ef : Bt.onl (ts.take (i + 1)) us = Bt.onl (ts.take i) us ++ Bt.onl [y] us := by
          unfold Bt.onl
          rw [List.take_succ, ey, List.filter_append]; rfl
        unfold gName
        dsimp only
        refine ⟨_, rfl, _, rfl, .inr ⟨r, y, b, qs, us, rfl, hr5, rfl, SqL.of (s5 b _ hb), TupsH.sm hU s5, _, rfl, ?_⟩⟩
        rw [any_mem]
        refine ite2 (fun c => ?_) (fun c => ?_)
        · rw [show Bt.onl [y] us = [y] by unfold Bt.onl; rw [List.filter_cons, if_pos c]; rfl] at ef
          refine ⟨_, rfl, h5, Nxt.mk hil ⟨zs ++ [r], _, _, by rw [List.map_append]; rfl, rfl, fun b o e => ?_, upd_same, ?_⟩⟩
          · rw [upd_ne (ne_of_none e hD)]; exact s5 b o e
          · rw [ef]
            refine TupsH.tu (paired_snoc hz ⟨hr5, ny⟩) fun b xs e => ?_
            rw [upd_ne (fun z => by subst z; rw [h5] at e; cases e)]; exact e
        · rw [show Bt.onl [y] us = [] by unfold Bt.onl; rw [List.filter_cons, if_neg c]; rfl, List.append_nil] at ef
          exact Nxt.mk hil ⟨zs, _, _, rfl, rfl, s5, h5, by rw [ef]; exact hz⟩
      · rintro ys σ0 H5 ⟨zs, e0, e1, rfl, rfl, s5, h5, hz⟩
        rw [List.length_map, lq, List.take_length] at hz
        exact hQ D zs H5 hD s5 h5 hz
/-! neighbours_by -/
def spNby : Sp := fun vs H Q _ => ∃ (p : Addr) (rs : List Addr) (D : List (List Int)), vs = [.ref p] ∧ H p = some (.lst (rs.map V.ref)) ∧ TupsH H rs D ∧ (∀ t ∈ D, Bt.Tie t) ∧ D.length ≤ 100 ∧
  ∀ dn kvs H', Same H H' → NbS H' H dn (Bt.dir D) kvs → Q (.ref dn) H'
abbrev nmB : List Str := ["ties", "neighbours", "a", "b"]
theorem scNby : FnScope nmB ["ties"] (defScope sNby) := ⟨rfl, rfl, rfl, by decide +kernel, rfl, by decide +kernel, by decide +kernel⟩
abbrev XB (P : Program) (w : World) (K : PySem.W.Frag) (mg : Str → Option Value) (base : Heap) (f : Addr) (cdv : Value) (A : Around) (outer : List Env) (s : Shared) (H : Hp) (E : XK) : Cx := (cxOf CX0 P w K mg base nmB "neighbours_by" (defScope sNby) f cdv A outer s H E).nox
/-- one more neighbour -/
def tPut (H0 : Hp) (i j : Nat) : TS := fun D σ H => ∃ (dn : Addr) (E : List (Int × Int)) (kvs : List (Key × V)) (x y : Int), σ[1]? = some (some (.ref dn)) ∧ σ[i]? = some (some (.int x)) ∧ σ[j]? = some (some (.int y)) ∧ Same H0 H ∧ NbS H H0 dn E kvs ∧ E.length ≤ 300 ∧
  ∀ kvs' H', Same H0 H' → NbS H' H0 dn (E ++ [(x, y)]) kvs' → D.nx σ H'
theorem put_ok {H0 H : Hp} {dn : Addr} {E : List (Int × Int)} {kvs : List (Key × V)} {x y : Int} {σ : L2.St} {D : Ends} (s0 : Same H0 H) (N : NbS H H0 dn E kvs) (lE : E.length ≤ 300) (k : ∀ kvs' H', Same H0 H' → NbS H' H0 dn (E ++ [(x, y)]) kvs' → D.nx σ H') {l : Addr} (hl : H l = none) :
    (∀ v, valV kvs (.inl x) = some v → ∃ a, v = .ref a ∧ ∃ xs, upd H l (.lst []) a = some (.lst xs) ∧ xs.length ≤ 900 ∧ D.nx σ (upd (upd H l (.lst [])) a (.lst (xs ++ [.int y])))) ∧
    (valV kvs (.inl x) = none → D.nx σ (upd (upd (upd H l (.lst [])) dn (.dK (putK kvs (.inl x) (.ref l)))) l (.lst [.int y]))) := by
  have s1 : Same H (upd H l (.lst [])) := Same.new' hl
  refine ⟨fun v e => ?_, fun e => ?_⟩
  · obtain ⟨a, rfl, ha, h0, na⟩ := N.at_ x v e
    refine ⟨a, rfl, _, s1 a _ ha, ?_, ?_⟩
    · rw [List.length_map]
      have : (Bt.nbE E x).length ≤ E.length := by
        unfold Bt.nbE
        rw [List.length_map]
        exact List.length_filter_le _ _
      omega
    · refine k kvs _ (fun b o q => ?_) (NbS.there (N.same s1) e)
      rw [upd_ne (ne_of_none q h0)]; exact s1 b o (s0 b o q)
  · have hl0 := s0.free hl
    refine k _ _ (fun b o q => ?_) (N.new e hl hl0)
    have n1 := ne_of_none q hl0
    rw [upd_ne n1, upd_ne (ne_of_none q N.h0), upd_ne n1]
    exact s0 b o q
theorem ok_nby {f : Addr} {fd : FuncData} (F : Fun K "neighbours_by" "neighbours_by" sNby f fd) : FnOk P w K mg base CX0 1 f fd ["ties"] spNby := by
  refine F.ok scNby (fun vs H Q E h => ?_) (fun cdv A outer s H vs Q E hr h => ?_)
  · obtain ⟨p, rs, D, rfl, _⟩ := h
    rfl
  · obtain ⟨p, rs, T, rfl, hp, hT, tD, lD, hQ⟩ := h
    have lq := Paired.length hT
    refine' ⟨_, pss_cons (ps_set (i := 1) scNby.nd rfl (Or.inl rfl) pe_dnewK) (pss_cons (ps_for ?qa ?qb ?qc ?qd (pss_cons ?b0 (pss_one ?b1))) (pss_one (ps_ret (pv 1)))), ?_⟩
    case qa => exact PassesOwn.never
    case qb => exact rfl
    case qc => exact pi_list (pv 0)
    case qd => exact pg_tup rfl (pgs_cons (pg_name (i := 2) scNby.nd rfl (Or.inl rfl)) (pgs_cons (pg_name (i := 3) scNby.nd rfl (Or.inl rfl)) pgs_nil))
    case b0 =>
      refine' PS.imp (t' := tPut H 2 3) (ps_expr (pe_bm PySem.F.plainAttrs_list PySem.F.slot_list_append PySem.F.type_list_append mt_append (pe_bm PySem.F.plainAttrs_dict PySem.F.slot_dict_setdefault PySem.F.type_dict_setdefault mt_setdef (pv 1) (pa_cons (pv 2) (pa_cons (pe_lst pa_nil) pa_nil))) (pa_cons (pv 3) pa_nil))) ?_
      rintro D σ H1 ⟨dn, E, kvs, x, y, e1, e2, e3, s0, N, lE, k⟩
      have ln := N.len
      refine ⟨_, e1, .inr (.inr (.inl ⟨rfl, .inl ⟨kvs, N.hd⟩⟩)), _, e2, Nat.zero_le _, fun l hl => ?_⟩
      have s1 : Same H1 (upd H1 l (.lst [])) := Same.new' hl
      obtain ⟨k1, k2⟩ := put_ok s0 N lE k hl
      refine ⟨dn, kvs, .inl x, .ref l, rfl, rfl, s1 dn _ N.hd, small1000 (by omega), fun v e => ?_, fun e => ?_⟩
      · obtain ⟨a, rfl, xs, hx, lx, kk⟩ := k1 v e
        exact ⟨.inl ⟨rfl, _, SqL.of hx⟩, _, e3, a, xs, _, rfl, rfl, hx, small1000 (by omega), kk⟩
      · have nl : dn ≠ l := ne_of_none N.hd hl
        have hx : upd (upd H1 l (.lst [])) dn (.dK (putK kvs (.inl x) (.ref l))) l = some (.lst []) := by rw [upd_ne (Ne.symm nl), upd_same]
        exact ⟨.inl ⟨rfl, _, SqL.of hx⟩, _, e3, l, [], _, rfl, rfl, hx, small1000 (Nat.zero_le _), k2 e⟩
    case b1 =>
      refine' PS.imp (t' := tPut H 3 2) (ps_expr (pe_bm PySem.F.plainAttrs_list PySem.F.slot_list_append PySem.F.type_list_append mt_append (pe_bm PySem.F.plainAttrs_dict PySem.F.slot_dict_setdefault PySem.F.type_dict_setdefault mt_setdef (pv 1) (pa_cons (pv 3) (pa_cons (pe_lst pa_nil) pa_nil))) (pa_cons (pv 2) pa_nil))) ?_
      rintro D σ H1 ⟨dn, E, kvs, x, y, e1, e2, e3, s0, N, lE, k⟩
      have ln := N.len
      refine ⟨_, e1, .inr (.inr (.inl ⟨rfl, .inl ⟨kvs, N.hd⟩⟩)), _, e2, Nat.zero_le _, fun l hl => ?_⟩
      have s1 : Same H1 (upd H1 l (.lst [])) := Same.new' hl
      obtain ⟨k1, k2⟩ := put_ok s0 N lE k hl
      refine ⟨dn, kvs, .inl x, .ref l, rfl, rfl, s1 dn _ N.hd, small1000 (by omega), fun v e => ?_, fun e => ?_⟩
      · obtain ⟨a, rfl, xs, hx, lx, kk⟩ := k1 v e
        exact ⟨.inl ⟨rfl, _, SqL.of hx⟩, _, e3, a, xs, _, rfl, rfl, hx, small1000 (by omega), kk⟩
      · have nl : dn ≠ l := ne_of_none N.hd hl
        have hx : upd (upd H1 l (.lst [])) dn (.dK (putK kvs (.inl x) (.ref l))) l = some (.lst []) := by rw [upd_ne (Ne.symm nl), upd_same]
        exact ⟨.inl ⟨rfl, _, SqL.of hx⟩, _, e3, l, [], _, rfl, rfl, hx, small1000 (Nat.zero_le _), k2 e⟩
    intro dn hdn
    have s1 : Same H (upd H dn (.dK [])) := Same.new' hdn
    have N0 : NbS (upd H dn (.dK [])) H dn [] [] := ⟨upd_same, ⟨[], rfl⟩, List.nodup_nil, fun p v e => (nomatch e), fun p q a e => (nomatch e), fun p => ⟨fun _ => rfl, fun _ => rfl⟩, Nat.le_refl _, hdn⟩
    generalize upd H dn (.dK []) = H1 at s1 N0 ⊢
    refine ⟨_, rfl, p, rfl, ⟨_, SqL.of (s1 p _ hp)⟩, for_list (K := K) (a := p) (xs := rs.map V.ref)
      (fun i σ H2 => ∃ (kvs : List (Key × V)) (e2 e3 : Option V), σ = [some (.ref p), some (.ref dn), e2, e3] ∧ Same H H2 ∧ NbS H2 H dn (Bt.dir (T.take i)) kvs)
      ⟨[], none, none, rfl, s1, N0⟩ (fun i σ H2 _ ⟨_, _, _, _, s2, _⟩ => SqL.of (s2 p _ hp)) ?_ ?_⟩
    · rintro i x σ H2 hi ⟨kvs, e2, e3, rfl, s2, N⟩
      obtain ⟨r, t, rfl, et, hr2, _⟩ := tie_at (TupsH.sm hT s2) hi
      obtain ⟨a, b, rfl, hab⟩ := tD t (List.mem_of_getElem? et)
      have ed : Bt.dir (T.take (i + 1)) = Bt.dir (T.take i) ++ [(a, b)] ++ [(b, a)] := by
        unfold Bt.dir
        rw [List.take_succ, et, List.flatMap_append, List.append_assoc]; rfl
      have le : (Bt.dir (T.take i)).length ≤ 200 := by
        have key : ∀ L : List (List Int), (Bt.dir L).length ≤ 2 * L.length := by
          intro L
          induction L with
          | nil => exact Nat.le_refl _
          | cons u L ih =>
            rw [Bt.dir_cons, List.length_append, List.length_cons]
            have : (Bt.dir1 u).length ≤ 2 := by unfold Bt.dir1; split <;> simp
            omega
        have := key (T.take i)
        rw [List.length_take] at this
        omega
      refine ⟨r, _, rfl, SqT.of hr2, rfl, _, _, rfl, _, _, rfl, rfl, ?_⟩
      dsimp only [List.set_cons_succ, List.set_cons_zero]
      refine ⟨dn, _, kvs, a, b, rfl, rfl, rfl, s2, N, by omega, fun kvs2 H3 s3 N3 => ?_⟩
      refine ⟨dn, _, kvs2, b, a, rfl, rfl, rfl, s3, N3, by rw [List.length_append]; show _ + 1 ≤ _; omega, fun kvs3 H4 s4 N4 => ?_⟩
      exact ⟨kvs3, _, _, rfl, s4, by rw [ed]; exact N4⟩
    · rintro σ H2 ⟨kvs, e2, e3, rfl, s2, N⟩
      rw [List.length_map, lq, List.take_length] at N
      exact ⟨_, rfl, hQ dn kvs H2 s2 N⟩
end
end K25

/-! ### k25: followed -/
namespace K25
open PySem L2 PyProof.Rows
theorem big_ok {n : Nat} (h : n ≤ 100000) : n < sizeLine := Nat.lt_of_le_of_lt h (by decide)
/-- on the way -/
structure Way (D : List (List Int)) (s : Int) (pts ah : List Int) : Prop where
  h0 : pts[0]? = some s
  nd : pts.Nodup
  ch : ∀ (i : Nat) (x y : Int), pts[i]? = some x → pts[i + 1]? = some y → y ∈ Bt.nb D x
  ne : ∀ p ∈ pts, Bt.nb D p ≠ []
  ah : (pts = [s] ∧ ah = (Bt.nb D s).take 1) ∨ (2 ≤ pts.length ∧ (Bt.nb D s)[0]? = pts[1]? ∧ ∃ x, pts[pts.length - 1]? = some x ∧ ah = outI (Bt.nb D x) pts)
theorem Way.start {D : List (List Int)} {s : Int} (h : Bt.nb D s ≠ []) : Way D s [s] ((Bt.nb D s).take 1) :=
  ⟨rfl, by simp, fun i x y h1 h2 => by simp at h2, fun p hp => by rw [List.mem_singleton] at hp; exact hp ▸ h, .inl ⟨rfl, rfl⟩⟩
theorem mem_outI {t u : List Int} {x : Int} : x ∈ outI t u ↔ x ∈ t ∧ x ∉ u := by
  unfold outI
  rw [List.mem_filter]
  simp
theorem Way.step {D : List (List Int)} (tD : ∀ t ∈ D, Bt.Tie t) {s : Int} {pts rest : List Int} {x : Int} (h : Way D s pts (x :: rest)) : Way D s (pts ++ [x]) (outI (Bt.nb D x) (pts ++ [x])) := by
  have hl : 0 < pts.length := by
    have := h.h0
    obtain ⟨a, _⟩ := List.getElem?_eq_some_iff.mp this
    exact a
  obtain ⟨z, ez, hz, nz, h1⟩ : ∃ z, pts[pts.length - 1]? = some z ∧ x ∈ Bt.nb D z ∧ x ∉ pts ∧ (Bt.nb D s)[0]? = (pts ++ [x])[1]? := by
    rcases h.ah with ⟨e, ea⟩ | ⟨l2, e1, z, ez, ea⟩
    · have hx : x ∈ Bt.nb D s := List.mem_of_mem_take (ea ▸ List.Mem.head _)
      subst e
      refine ⟨s, rfl, hx, fun w => ?_, ?_⟩
      · rw [List.mem_singleton] at w
        exact ((Bt.mem_nb tD).mp hx).1 w.symm
      · cases q : Bt.nb D s with
        | nil => rw [q] at hx; cases hx
        | cons a r =>
          rw [q] at ea
          have : x = a := by simpa using congrArg List.head? ea
          rw [this]; rfl
    · have hx : x ∈ outI (Bt.nb D z) pts := ea ▸ List.Mem.head _
      obtain ⟨a, b⟩ := mem_outI.mp hx
      exact ⟨z, ez, a, b, by rw [e1, List.getElem?_append_left (by omega)]⟩
  refine ⟨by rw [List.getElem?_append_left hl]; exact h.h0, ?_, fun i a b ha hb => ?_, fun p hp => ?_, .inr ⟨by rw [List.length_append]; show 2 ≤ _ + 1; omega, h1, x, ?_, rfl⟩⟩
  · rw [List.nodup_append]
    refine ⟨h.nd, by simp, fun a ha b hb w => ?_⟩
    rw [List.mem_singleton] at hb
    exact nz (hb ▸ w ▸ ha)
  · have li : i + 1 < pts.length + 1 := by
      obtain ⟨w, _⟩ := List.getElem?_eq_some_iff.mp hb
      rw [List.length_append] at w
      exact w
    rw [List.getElem?_append_left (by omega)] at ha
    by_cases c : i + 1 < pts.length
    · rw [List.getElem?_append_left c] at hb
      exact h.ch i a b ha hb
    · have : i = pts.length - 1 := by omega
      subst this
      rw [ez] at ha
      cases ha
      rw [List.getElem?_append_right (by omega)] at hb
      rw [show pts.length - 1 + 1 - pts.length = 0 by omega] at hb
      cases hb
      exact hz
  · rcases List.mem_append.mp hp with w | w
    · exact h.ne p w
    · rw [List.mem_singleton] at w
      subst w
      intro q
      have := Bt.nb_symm tD hz
      rw [q] at this
      cases this
  · rw [List.getElem?_append_right (by rw [List.length_append]; show _ ≤ _ + 1 - 1; omega), List.length_append]
    show [x][pts.length + 1 - 1 - pts.length]? = _
    rw [show pts.length + 1 - 1 - pts.length = 0 by omega]
    rfl
theorem Way.done {D : List (List Int)} {s : Int} {pts : List Int} (h : Way D s pts []) : Bt.Walked D s pts := by
  rcases h.ah with ⟨e, ea⟩ | ⟨l2, e1, z, ez, ea⟩
  · exfalso
    have := h.ne s (by rw [e]; exact .head _)
    cases q : Bt.nb D s with
    | nil => exact this q
    | cons a r => rw [q] at ea; cases ea
  · refine ⟨l2, h.h0, e1, h.nd, h.ch, fun x ex q hq => ?_⟩
    rw [ez] at ex
    cases ex
    by_cases c : q ∈ pts
    · exact c
    · have : q ∈ outI (Bt.nb D z) pts := mem_outI.mpr ⟨hq, c⟩
      rw [← ea] at this
      cases this
theorem dir_len : ∀ L : List (List Int), (Bt.dir L).length ≤ 2 * L.length
  | [] => Nat.le_refl _
  | u :: L => by
    rw [Bt.dir_cons, List.length_append, List.length_cons]
    have h1 : (Bt.dir1 u).length ≤ 2 := by unfold Bt.dir1; split <;> simp
    have h2 := dir_len L
    omega
theorem key_len {H H0 : Hp} {dn : Addr} {D : List (List Int)} {kvs : List (Key × V)} (N : NbS H H0 dn (Bt.dir D) kvs) {pts : List Int} (nd : pts.Nodup) (ne : ∀ p ∈ pts, Bt.nb D p ≠ []) : pts.length ≤ 2 * D.length := by
  have h1 : (pts.map (Sum.inl : Int → Key)).Nodup := List.Pairwise.map (Sum.inl : Int → Key) (fun a b (h : a ≠ b) w => h (by injection w)) nd
  have h2 : (pts.map (Sum.inl : Int → Key)) ⊆ kvs.map (·.1) := fun k hk => by
    obtain ⟨p, hp, rfl⟩ := List.mem_map.mp hk
    cases q : valV kvs (.inl p) with
    | none => exact absurd ((N.iff p).mp q) (ne p hp)
    | some v => exact valV_in q
  have h3 := h1.length_le_of_subset h2
  rw [List.length_map, List.length_map] at h3
  have h4 := N.len
  have h5 := dir_len D
  omega
section
variable {P : Program} {w : World} {K : PySem.W.Frag} {mg : Str → Option Value} {base : Heap}
def spFoll : Sp := fun vs H Q _ => ∃ (dn : Addr) (s : Int) (H0 : Hp) (D : List (List Int)) (kvs : List (Key × V)), vs = [.ref dn, .int s] ∧ NbS H H0 dn (Bt.dir D) kvs ∧ (∀ t ∈ D, Bt.Tie t) ∧ D.length ≤ 100 ∧ Bt.nb D s ≠ [] ∧
  ∀ l pts H', H l = none → Same H H' → H' l = some (.lst (pts.map V.int)) → Bt.Walked D s pts → pts.length ≤ 200 → Q (.ref l) H'
abbrev nmF : List Str := ["neighbours", "start", "points", "ahead"]
theorem scFoll : FnScope nmF ["neighbours", "start"] (defScope sFoll) := ⟨rfl, rfl, rfl, by decide +kernel, rfl, by decide +kernel, by decide +kernel⟩
abbrev XF (P : Program) (w : World) (K : PySem.W.Frag) (mg : Str → Option Value) (base : Heap) (f : Addr) (cdv : Value) (A : Around) (outer : List Env) (s : Shared) (H : Hp) (E : XK) : Cx := (cxOf CX0 P w K mg base nmF "followed" (defScope sFoll) f cdv A outer s H E).nox
theorem ok_foll {f fO : Addr} {fd fdO : FuncData} (F : Fun K "followed" "followed" sFoll f fd)
    (GO : FnOk P w K mg base CX0 1 fO fdO ["one", "other"] spOnly) (mO : mg "only_in" = some (.ref fO)) (kO : PySem.W.keepIn K (.ref fO) = true) (bO : Binds K fdO ["one", "other"] []) : FnOk P w K mg base CX0 2 f fd ["neighbours", "start"] spFoll := by
  refine F.ok scFoll (fun vs H Q E h => ?_) (fun cdv A outer s H vs Q E hr h => ?_)
  · obtain ⟨dn, z, H0, D, kvs, rfl, _⟩ := h
    rfl
  · obtain ⟨dn, z, H0, D, kvs, rfl, N, tD, lD, nz, hQ⟩ := h
    have hu := hu_of hr
    refine' ⟨_, pss_cons ?s0 (pss_cons ?s1 (pss_cons (ps_while ?wa ?wc (pss_cons ?b0 (pss_one ?b1))) (pss_one (ps_ret (pv 2))))), ?_⟩
    case s0 => exact ps_set (i := 2) scFoll.nd rfl (Or.inl rfl) (pe_lst (pa_cons (pv 1) pa_nil))
    case s1 => exact ps_set (i := 3) scFoll.nd rfl (Or.inl rfl) (pe_slice sl_list (pe_dget hu (pv 0) (pv 1) (fun _ _ => rfl)) po_none (po_some pe_int))
    case wa => exact PassesOwn.never
    case wc => exact pt_truth (pv 3) (fun _ => rfl)
    case b0 => exact ps_expr (pe_bm PySem.F.plainAttrs_list PySem.F.slot_list_append PySem.F.type_list_append mt_append (pv 2) (pa_cons (pe_ix ix_list (pv 3) pe_int (fun _ _ => rfl)) pa_nil))
    case b1 => exact ps_set (i := 3) scFoll.nd rfl (Or.inl rfl) (pe_call GO hr rfl mO kO bO .nil pass0 (pa_cons (pe_dget hu (pv 0) (pe_ix ix_list (pv 3) pe_int (fun _ _ => rfl)) (fun _ _ => rfl)) (pa_cons (pv 2) pa_nil)))
    refine ⟨_, rfl, (by show 1 ≤ sizeLine; decide), fun lp hlp => ?_⟩
    have s1 : Same H (upd H lp (.lst [.int z])) := Same.new' hlp
    have hp1 : upd H lp (.lst [.int z]) lp = some (.lst ([z].map V.int)) := upd_same
    generalize upd H lp (.lst [.int z]) = H1 at s1 hp1 ⊢
    obtain ⟨a, hg, ha⟩ := (N.same s1).get nz
    dsimp only [gName, List.set_cons_succ, List.set_cons_zero]
    refine ⟨_, rfl, _, rfl, dn, .ref a, rfl, hg, _, rfl, a, _, rfl, SqL.of ha, fun la hla => ?_⟩
    rw [cut_map, cutA_take _ (by decide)]
    have s2 : Same H1 (upd H1 la (.lst (((Bt.nbE (Bt.dir D) z).take (1 : Int).toNat).map V.int))) := Same.new' hla
    have ha2 : upd H1 la (.lst (((Bt.nbE (Bt.dir D) z).take (1 : Int).toNat).map V.int)) la = some (.lst (((Bt.nb D z).take 1).map V.int)) := upd_same
    have nla : la ≠ lp := fun q => by rw [q, hp1] at hla; cases hla
    generalize upd H1 la (.lst (((Bt.nbE (Bt.dir D) z).take (1 : Int).toNat).map V.int)) = H2 at s2 ha2 ⊢
    have s02 := s1.trans s2
    dsimp only [gName, List.set_cons_succ, List.set_cons_zero]
    refine ⟨fun m σ H3 => ∃ (la : Addr) (pts ah : List Int), σ = [some (.ref dn), some (.int z), some (.ref lp), some (.ref la)] ∧ Same H H3 ∧ H3 lp = some (.lst (pts.map V.int)) ∧ H3 la = some (.lst (ah.map V.int)) ∧ la ≠ lp ∧ Way D z pts ah ∧ m + pts.length = 300, ⟨299, la, [z], _, rfl, s02, s2 lp _ hp1, ha2, nla, Way.start nz, rfl⟩, ?_⟩
    rintro m σ H3 ⟨la, pts, ah, rfl, s3, hp3, ha3, nl3, wy, hm⟩
    have lpt := key_len N wy.nd wy.ne
    refine ⟨_, rfl, _, .inl ⟨_, SqL.of ha3, rfl⟩, ?_⟩
    cases ah with
    | nil =>
      rw [show (!(([] : List Int).map V.int).isEmpty) = false from rfl]
      refine iteF ?_
      exact ⟨_, rfl, hQ lp pts H3 hlp s3 hp3 wy.done (by omega)⟩
    | cons x rest =>
      rw [show (!((x :: rest).map V.int).isEmpty) = true from rfl]
      refine iteT ?_
      have wy' := wy.step tD
      have g0 : atI ((x :: rest).map V.int) 0 = some (.int x) := atI_get' (k := 0) rfl (by simp)
      have nx : Bt.nb D x ≠ [] := wy'.ne x (List.mem_append_right _ (.head _))
      refine ⟨fun σ H4 => ∃ (la : Addr) (ah : List Int), σ = [some (.ref dn), some (.int z), some (.ref lp), some (.ref la)] ∧ Same H H4 ∧ H4 lp = some (.lst ((pts ++ [x]).map V.int)) ∧ H4 la = some (.lst (ah.map V.int)) ∧ la ≠ lp ∧ Way D z (pts ++ [x]) ah, fun σ' H' ⟨la, ah, e, q1, q2, q3, q4, q5⟩ => ⟨m - 1, by omega, la, _, ah, e, q1, q2, q3, q4, q5, by rw [List.length_append]; show _ + (_ + 1) = _; omega⟩, ?_⟩
      refine ⟨_, rfl, .inl ⟨rfl, _, SqL.of hp3⟩, _, rfl, la, _, _, _, rfl, rfl, SqL.of ha3, g0, lp, _, _, rfl, rfl, hp3, small1000 (by rw [List.length_map]; omega), ?_⟩
      have s4 : Same H (upd H3 lp (.lst (pts.map V.int ++ [.int x]))) := fun b o e => by rw [upd_ne (ne_of_none e hlp)]; exact s3 b o e
      have hp4 : upd H3 lp (.lst (pts.map V.int ++ [.int x])) lp = some (.lst ((pts ++ [x]).map V.int)) := by rw [upd_same, List.map_append]; rfl
      have ha4 : upd H3 lp (.lst (pts.map V.int ++ [.int x])) la = some (.lst ((x :: rest).map V.int)) := by rw [upd_ne nl3]; exact ha3
      generalize upd H3 lp (.lst (pts.map V.int ++ [.int x])) = H4 at s4 hp4 ha4 ⊢
      obtain ⟨a, hg, ha⟩ := (N.same s4).get nx
      have ln : (Bt.nbE (Bt.dir D) x).length ≤ 200 := by
        have h1 : (Bt.nbE (Bt.dir D) x).length ≤ (Bt.dir D).length := by
          unfold Bt.nbE
          rw [List.length_map]
          exact List.length_filter_le _ _
        have h2 := dir_len D
        omega
      refine ⟨_, rfl, _, rfl, la, _, _, _, rfl, rfl, SqL.of ha4, g0, dn, .ref a, rfl, hg, _, rfl, a, lp, rfl, .inl ⟨_, _, ha, hp4, by omega, fun l2 H5 hl2 s5 h5 => ?_⟩⟩
      exact ⟨l2, _, rfl, s4.trans s5, s5 lp _ hp4, h5, (fun q => by rw [q, hp4] at hl2; cases hl2), wy'⟩
end
end K25

/-! ### k25: between -/
namespace K25
open PySem L2 PyProof.Rows
/-- the word of a kind -/
def wrd (r : Bool) : Str := if r = true then "row" else "ring"
/-- a tuple of a word and points, these new -/
def FH (H0 H : Hp) (f : Addr) (k : Bool × List Int) : Prop := ∃ m, H f = some (.tup [.str (wrd k.1), .ref m]) ∧ H m = some (.lst (k.2.map V.int)) ∧ H0 m = none
abbrev FsH (H0 H : Hp) (fs : List Addr) (F : List (Bool × List Int)) : Prop := Paired (FH H0 H) fs F
theorem FsH.same {H0 H H' : Hp} {fs : List Addr} {F : List (Bool × List Int)} (h : FsH H0 H fs F) (z : Same H H') : FsH H0 H' fs F := paired_imp (fun _ _ ⟨m, h1, h2, h3⟩ => ⟨m, z _ _ h1, z _ _ h2, h3⟩) h
theorem FsH.kp {H0 H H' : Hp} (k : Kp H H') : ∀ {fs : List Addr} {F : List (Bool × List Int)}, FsH H0 H fs F → (∀ j ∈ F, j.2 ≠ []) → FsH H0 H' fs F
  | _, _, .nil, _ => .nil
  | _, _, .cons ⟨m, h1, h2, h3⟩ r, n => .cons ⟨m, k.1 _ _ h1, k.2 _ _ (n _ (.head _)) h2, h3⟩ (FsH.kp k r fun t ht => n t (.tail _ ht))
theorem whole_ne {D : List (List Int)} {k : Bool × List Int} (h : Bt.Whole D k) : k.2 ≠ [] := fun z => by
  have := h.len
  rw [z] at this
  split at this <;> exact absurd this (by decide)
/-- the points met -/
structure Met (H : Hp) (dm : Addr) (kv : List (Key × V)) (M : List Int) : Prop where
  hd : H dm = some (.dK kv)
  iff : ∀ p : Int, (valV kv (.inl p)).isSome = decide (p ∈ M)
  len : kv.length ≤ M.length
section
variable {P : Program} {w : World} {K : PySem.W.Frag} {mg : Str → Option Value} {base : Heap}
def spBetw : Sp := fun vs H Q _ => ∃ (a b : Addr) (rs qs : List Addr) (O T : List (List Int)), vs = [.ref a, .ref b] ∧ H a = some (.lst (rs.map V.ref)) ∧ H b = some (.lst (qs.map V.ref)) ∧ TupsH H rs O ∧ TupsH H qs T ∧ Bt.Mat O ∧ Bt.Mat T ∧ O.length ≤ 15 ∧ T.length ≤ 15 ∧
  ∀ l fs F H', H l = none → Same H H' → H' l = some (.lst (fs.map V.ref)) → FsH H H' fs F → Bt.Found (Bt.dif O T) F → (F.flatMap Bt.alg).Perm (Bt.dif O T) → F.length ≤ 200 → Q (.ref l) H'
abbrev nmW : List Str := ["one", "other", "neighbours", "point", "ends", "found", "met", "start", "points"]
theorem scBetw : FnScope nmW ["one", "other"] (defScope sBetw) := ⟨rfl, rfl, rfl, by decide +kernel, rfl, by decide +kernel, by decide +kernel⟩
abbrev XW (P : Program) (w : World) (K : PySem.W.Frag) (mg : Str → Option Value) (base : Heap) (f : Addr) (cdv : Value) (A : Around) (outer : List Env) (s : Shared) (H : Hp) (E : XK) : Cx := (cxOf CX0 P w K mg base nmW "between" (defScope sBetw) f cdv A outer s H E).nox
def compW : Scope := { kind := .function, names := [(Str.ofString ".0", .local), (Str.ofString "point", .local), (Str.ofString "len", .globalImplicit), (Str.ofString "neighbours", .free)], isGenerator := false, isCoroutine := false, more := [] }
theorem nd_compW : ([".0", "point", "neighbours"] : List Str).Nodup := by decide +kernel
theorem capsW {f : Addr} {cdv : Value} {A : Around} {outer : List Env} {s : Shared} {H : Hp} {E : XK} : Caps (XW P w K mg base f cdv A outer s H E) compW [(Str.ofString "neighbours", s.heap.objs.size + 1)] [".0", "point"] ["neighbours"] [2] := by
  have e1 : (XW P w K mg base f cdv A outer s H E).env.cells = [(Str.ofString "neighbours", s.heap.objs.size + 1)] := by rfl
  have e2 : (relabel compW (XW P w K mg base f cdv A outer s H E).env).names = [(Str.ofString ".0", .local), (Str.ofString "point", .local), (Str.ofString "len", .globalImplicit), (Str.ofString "neighbours", .cell)] := by rfl
  refine ⟨rfl, fun x c h => ?_, rfl, by decide +kernel, by decide +kernel, fun x hx => ?_, rfl, fun i x e => ?_⟩
  · have hx : (x = Str.ofString "neighbours" ∧ c = s.heap.objs.size + 1) := by
      have := PySem.mem_of_lookup h
      simpa using this
    obtain ⟨rfl, rfl⟩ := hx
    rw [e1]; rfl
  · rw [e2] at hx
    have hx : x = Str.ofString "neighbours" := by
      rcases hx with hx | hx
      all_goals
        have := PySem.mem_of_lookup hx
        simpa using this
    subst hx
    exact ⟨_, rfl⟩
  · match i, e with
    | 0, e =>
      cases (Option.some.inj e)
      exact ⟨2, rfl, rfl, rfl, rfl, by rw [e2]; rfl⟩
    | n + 1, e => cases e

abbrev betwAt (i : Nat) : Stmt := (defBody sBetw).getD i (.Pass ⟨0, 0, 0, 0⟩)
section
variable {f : Addr} {cdv : Value} {A : Around} {outer : List Env} {s : Shared} {H : Hp} {E : XK}
/-- the ends -/
def tEnds : TS := fun D σ H => ∃ (dn : Addr) (H0 : Hp) (T : List (List Int)) (kvs : List (Key × V)), σ[2]? = some (some (.ref dn)) ∧ NbS H H0 dn (Bt.dir T) kvs ∧ T.length ≤ 30 ∧
  ∀ (l : Addr) (es : List Int) (H' : Hp), Same H H' → H' l = some (.lst (es.map V.int)) → es.length ≤ 60 → (∀ p, p ∈ es ↔ (Bt.nb T p).length = 1) → D.nx (σ.set 4 (some (.ref l))) H'
theorem keys_of {H H0 : Hp} {dn : Addr} {T : List (List Int)} {kvs : List (Key × V)} (N : NbS H H0 dn (Bt.dir T) kvs) {ks : List Int} (e : kvs.map (·.1) = ks.map Sum.inl) : ks.length ≤ 2 * T.length ∧ ∀ p, p ∈ ks ↔ Bt.nb T p ≠ [] := by
  have l1 : ks.length = kvs.length := by have := congrArg List.length e; rw [List.length_map, List.length_map] at this; exact this.symm
  have l2 := N.len
  have l3 := dir_len T
  refine ⟨by omega, fun p => ?_⟩
  have i1 : p ∈ ks ↔ (Sum.inl p : Key) ∈ kvs.map (·.1) := by
    rw [e, List.mem_map]
    exact ⟨fun h => ⟨p, h, rfl⟩, fun ⟨q, h, z⟩ => by injection z with z; exact z ▸ h⟩
  rw [i1]
  constructor
  · intro h z
    exact valV_not ((N.iff p).mpr z) h
  · intro h
    cases q : valV kvs (.inl p) with
    | none => exact absurd ((N.iff p).mp q) h
    | some v => exact valV_in q
theorem ok_ends (gsrt : mg "sorted" = none) (glen : mg "len" = none) (hr : Room 2 (A.deeper (envOfC "between" (defScope sBetw) s.heap.objs.size f cdv))) : PS (XW P w K mg base f cdv A outer s H E) (betwAt 1) tEnds := by
  have hu := hu_of hr
  refine' PS.imp (t' := tEnds) (ps_comp (i := 4) (g := gName 1) (own := [".0", "point"]) (caps := ["neighbours"]) (js := [2]) rfl capsW (pi_list (pe_callB (call_sortedDI rfl) (by rfl) gsrt boot_sorted (pa_cons (pv 2) pa_nil))) (fun pins C s H1 fp => pg_name (i := 1) nd_compW rfl (Or.inl rfl) (Or.inr rfl)) (fun pins C s H1 fp => pts_one (pt_cmpR op_eq (pe_callB (call_lenK K rfl) (by rfl) glen PySem.boot_len (pa_cons (pe_dget hu (pv 2) (pv 1) (fun _ _ => rfl)) pa_nil)) pe_int (nomark _))) (fun pins C s H1 fp => pv 1) scBetw.nd rfl rfl rfl) ?_
  rintro D σ H1 ⟨dn, H0, T, kvs, e2, N, lT, k⟩
  obtain ⟨ks, ek⟩ := N.ks
  obtain ⟨lk, mk⟩ := keys_of N ek
  refine ⟨_, e2, dn, kvs, ks, rfl, N.hd, ek, by omega, fun t p hp _ hf => ?_⟩
  have s1 : Same H1 (upd H1 p (.lst (t.map V.int))) := Same.new' hf
  have hp1 : upd H1 p (.lst (t.map V.int)) p = some (.lst (t.map V.int)) := upd_same
  generalize upd H1 p (.lst (t.map V.int)) = H2 at s1 hp1 ⊢
  have lt : t.length ≤ 60 := by rw [hp.length_eq]; omega
  refine ⟨p, rfl, ⟨_, SqL.of hp1⟩, fun D2 hD => ?_⟩
  have eC : σC ([".0", "point"] : List Str).length [2] σ = [none, none, some (.ref dn)] := by
    show [none, none, (σ[2]?).getD none] = _
    rw [e2]
    rfl
  rw [eC]
  have N2 := N.same s1
  refine turns_list (K := K) (a := p) (xs := t.map V.int) (fun i ys σ H5 => ∃ (e0 e1 : Option V), ys = ((t.take i).filter fun q => decide ((Bt.nb T q).length = 1)).map V.int ∧ σ = [e0, e1, some (.ref dn)] ∧ Same H2 H5 ∧ H5 D2 = some (.lst ys)) ⟨none, none, rfl, rfl, Same.new' hD, upd_same⟩ ?_ ?_ ?_
  · rintro i ys σ H5 ⟨e0, e1, rfl, rfl, s5, h5⟩
    refine ⟨h5, small1000 ?_, SqL.of (s5 p _ hp1)⟩
    have := List.length_filter_le (fun q => decide ((Bt.nb T q).length = 1)) (t.take i)
    rw [List.length_take] at this
    rw [List.length_map]
    omega
  · rintro i x ys σ H5 hi ⟨e0, e1, rfl, rfl, s5, h5⟩
    have hil : i < (t.map V.int).length := (List.getElem?_eq_some_iff.mp hi).1
    obtain ⟨y, rfl, ey⟩ := map_int_at hi
    have hy : Bt.nb T y ≠ [] := (mk y).mp (hp.mem_iff.mp (List.mem_of_getElem? ey))
    obtain ⟨a, hg, ha⟩ := (N2.same s5).get hy
    have ef : (t.take (i + 1)).filter (fun q => decide ((Bt.nb T q).length = 1)) = (t.take i).filter (fun q => decide ((Bt.nb T q).length = 1)) ++ [y].filter fun q => decide ((Bt.nb T q).length = 1) := by
      rw [List.take_succ, ey, List.filter_append]; rfl
    unfold gName
    dsimp only
    refine ⟨_, rfl, _, rfl, dn, .ref a, rfl, hg, a, _, rfl, .inl (SqL.of ha), rfl, _, rfl, ?_⟩
    refine ite2 (fun c => ?_) (fun c => ?_)
    · have c1 : (Bt.nb T y).length = 1 := by
        have := of_decide_eq_true c
        injection this with this
        rw [List.length_map] at this
        show (Bt.nbE (Bt.dir T) y).length = 1
        omega
      rw [show [y].filter (fun q => decide ((Bt.nb T q).length = 1)) = [y] by simp [c1]] at ef
      refine ⟨_, rfl, h5, Nxt.mk hil ⟨_, _, by rw [ef, List.map_append]; rfl, rfl, fun b o e => ?_, upd_same⟩⟩
      rw [upd_ne (ne_of_none e hD)]; exact s5 b o e
    · have c1 : ¬ (Bt.nb T y).length = 1 := fun z => c (by
        rw [decide_eq_true_iff, List.length_map]
        congr 1
        have z : (Bt.nbE (Bt.dir T) y).length = 1 := z
        omega)
      rw [show [y].filter (fun q => decide ((Bt.nb T q).length = 1)) = [] by simp [c1], List.append_nil] at ef
      exact Nxt.mk hil ⟨_, _, by rw [ef], rfl, s5, h5⟩
  · rintro ys σ0 H5 ⟨e0, e1, rfl, rfl, s5, h5⟩
    rw [List.length_map, List.take_length] at h5
    refine k D2 _ H5 (s1.trans s5) h5 (Nat.le_trans (List.length_filter_le _ _) lt) fun q => ?_
    rw [List.mem_filter, decide_eq_true_iff]
    refine ⟨fun h => h.2, fun h => ⟨hp.mem_iff.mpr ((mk q).mpr fun z => ?_), h⟩⟩
    rw [z] at h
    cases h
/-- all points of a row are met -/
def tMet : TS := fun D σ H => ∃ (dm lp : Addr) (kv : List (Key × V)) (M pts : List Int), σ[6]? = some (some (.ref dm)) ∧ σ[8]? = some (some (.ref lp)) ∧ 8 < σ.length ∧ H lp = some (.lst (pts.map V.int)) ∧ Met H dm kv M ∧ M.length + pts.length ≤ 100000 ∧
  ∀ (e3 : Option V) (kv' : List (Key × V)) (H' : Hp), (∀ b o, b ≠ dm → H b = some o → H' b = some o) → Met H' dm kv' (M ++ pts) → D.nx (σ.set 3 e3) H'
theorem set3_get {σ : L2.St} {e : Option V} {i : Nat} (h : i ≠ 3) : (σ.set 3 e)[i]? = σ[i]? := by
  rw [List.getElem?_set]
  rw [if_neg (Ne.symm h)]
end
end
end K25

/-! ### k25: between, the loop -/
namespace K25
open PySem L2 PyProof.Rows
section
variable {P : Program} {w : World} {K : PySem.W.Frag} {mg : Str → Option Value} {base : Heap}
section
variable {f : Addr} {cdv : Value} {A : Around} {outer : List Env} {s : Shared} {H : Hp} {E : XK}
theorem met_ok {H : Hp} {dm lp : Addr} {kv : List (Key × V)} {M pts : List Int} {σ : L2.St} {D : Ends} {e3 : Option V} (i3 : σ[3]? = some e3) (i6 : σ[6]? = some (some (.ref dm))) (hp : H lp = some (.lst (pts.map V.int))) (hM : Met H dm kv M) (ln : M.length + pts.length ≤ 100000)
    (k : ∀ (e3 : Option V) (kv' : List (Key × V)) (H' : Hp), (∀ b o, b ≠ dm → H b = some o → H' b = some o) → Met H' dm kv' (M ++ pts) → D.nx (σ.set 3 e3) H') {tb : TS}
    (htb : ∀ (D : Ends) (σ : L2.St) (H : Hp) (y : Int) (dm : Addr) (kv : List (Key × V)), σ[3]? = some (some (.int y)) → σ[6]? = some (some (.ref dm)) → H dm = some (.dK kv) → kv.length < sizeLine → D.nx σ (upd H dm (.dK (putK kv (.inl y) (.bl true)))) → tb D σ H) :
    ∃ W : Nat → Nat → L2.St → Hp → Prop, (∃ m, W 0 m σ H) ∧ ∀ i m σ H, W i m σ H →
      ((Itl K lp).stop i H ∧ D.nx σ H) ∨ ((Itl K lp).go i H ∧ ∃ N : L2.St → Hp → Prop, (∀ σ' H', N σ' H' → ∃ m', m' < m ∧ W (i + 1) m' σ' H') ∧ ∀ x H', (Itl K lp).yld i H x H' → gName 3 x σ H' fun σ2 H2 => tb { D with nx := N, ct := N, bk := D.nx } σ2 H2) := by
  have nd : lp ≠ dm := fun z => by rw [z, hM.hd] at hp; cases hp
  have l3 : 3 < σ.length := (List.getElem?_eq_some_iff.mp i3).1
  refine for_list (K := K) (a := lp) (xs := pts.map V.int) (fun i σ' H2 => ∃ (e3 : Option V) (kv : List (Key × V)), σ' = σ.set 3 e3 ∧ (∀ b o, b ≠ dm → H b = some o → H2 b = some o) ∧ Met H2 dm kv (M ++ pts.take i))
    ⟨e3, kv, (set_self i3).symm, fun _ _ _ h => h, by rw [List.take_zero, List.append_nil]; exact hM⟩ (fun i σ' H2 _ ⟨_, _, _, fr, _⟩ => SqL.of (fr lp _ nd hp)) ?_ ?_
  · rintro i x σ' H2 hi ⟨e, kv2, rfl, fr, m2⟩
    obtain ⟨y, rfl, ey⟩ := map_int_at hi
    have hil : i < pts.length := (List.getElem?_eq_some_iff.mp ey).1
    unfold gName
    rw [List.set_set]
    have lm := m2.len
    rw [List.length_append, List.length_take] at lm
    refine htb _ _ _ y dm kv2 (by rw [List.getElem?_set, if_pos rfl, if_pos l3]) (by rw [set3_get (by decide)]; exact i6) m2.hd (big_ok (by omega)) ⟨_, _, rfl, fun b o nb hb => ?_, upd_same, fun p => ?_, ?_⟩
    · rw [upd_ne nb]; exact fr b o nb hb
    · rw [valV_put, List.take_succ, ey]
      by_cases c : p = y
      · subst c
        rw [if_pos rfl, Option.isSome_some]
        symm
        rw [decide_eq_true_iff]
        exact List.mem_append_right _ (List.mem_append_right _ (.head _))
      · rw [if_neg (fun z => c (by injection z)), m2.iff p]
        rw [Bool.eq_iff_iff, decide_eq_true_iff, decide_eq_true_iff]
        constructor
        · intro h
          rcases List.mem_append.mp h with h | h
          · exact List.mem_append_left _ h
          · exact List.mem_append_right _ (List.mem_append_left _ h)
        · intro h
          rcases List.mem_append.mp h with h | h
          · exact List.mem_append_left _ h
          · rcases List.mem_append.mp h with h | h
            · exact List.mem_append_right _ h
            · exact absurd (by simpa using h) c
    · have h1 := length_putK kv2 (Sum.inl y : Key) (V.bl true)
      rw [List.length_append, List.length_take]
      omega
  · rintro σ' H2 ⟨e, kv2, rfl, fr, m2⟩
    rw [List.length_map, List.take_length] at m2
    exact k e kv2 H2 fr m2
/-- one more is told -/
def tApp : TS := fun D σ H => ∃ (dn lf lp : Addr) (H0 : Hp) (T : List (List Int)) (kvs : List (Key × V)) (y : Int) (xs : List V), σ[2]? = some (some (.ref dn)) ∧ σ[5]? = some (some (.ref lf)) ∧ σ[7]? = some (some (.int y)) ∧ σ[8]? = some (some (.ref lp)) ∧ NbS H H0 dn (Bt.dir T) kvs ∧ Bt.nb T y ≠ [] ∧ H lf = some (.lst xs) ∧ xs.length ≤ 900 ∧
  ∀ q, H q = none → D.nx σ (upd (upd H q (.tup [.str (wrd (decide ((Bt.nb T y).length = 1))), .ref lp])) lf (.lst (xs ++ [.ref q])))
/-- the loop over all points -/
def tMain : TS := fun D σ H => ∃ (a b dn le lf dm : Addr) (H0 HB : Hp) (T : List (List Int)) (c : List Int → Bool) (kvs : List (Key × V)) (es : List Int) (e3 e7 e8 : Option V), σ = [some (.ref a), some (.ref b), some (.ref dn), e3, some (.ref le), some (.ref lf), some (.ref dm), e7, e8] ∧
  NbS HB H0 dn (Bt.dir T) kvs ∧ Bt.Two T c ∧ T.length ≤ 30 ∧ HB le = some (.lst (es.map V.int)) ∧ es.length ≤ 60 ∧ (∀ p, p ∈ es ↔ (Bt.nb T p).length = 1) ∧ HB lf = none ∧ HB dm = none ∧ lf ≠ dm ∧ Same HB H ∧ H lf = some (.lst []) ∧ H dm = some (.dK []) ∧
  ∀ (e3 e7 e8 : Option V) (fs : List Addr) (F : List (Bool × List Int)) (H' : Hp), Same HB H' → H' lf = some (.lst (fs.map V.ref)) → FsH HB H' fs F → Bt.Found T F → (F.flatMap Bt.alg).Perm T → F.length ≤ 200 → D.nx [some (.ref a), some (.ref b), some (.ref dn), e3, some (.ref le), some (.ref lf), some (.ref dm), e7, e8] H'
theorem ok_main (gsrt : mg "sorted" = none) (glen : mg "len" = none) {fF : Addr} {fdF : FuncData}
    (GF : FnOk P w K mg base CX0 2 fF fdF ["neighbours", "start"] spFoll) (mF : mg "followed" = some (.ref fF)) (kF : PySem.W.keepIn K (.ref fF) = true) (bF : Binds K fdF ["neighbours", "start"] [])
    (hr : Room 2 (A.deeper (envOfC "between" (defScope sBetw) s.heap.objs.size f cdv))) : PS (XW P w K mg base f cdv A outer s H E) (betwAt 4) tMain := by
  have hu := hu_of hr
  have hr2 : Room 2 (XW P w K mg base f cdv A outer s H E).A := hr
  refine' PS.imp (t' := tMain) (ps_for ?qa ?qb ?qc ?qd (pss_one (ps_if ?qt (pss_cons ?b0 (pss_cons ?b1 (pss_one ?b2))) pss_nil))) ?_
  case qa => exact PassesOwn.never
  case qb => exact rfl
  case qc => exact pi_list (pe_op op_cat (pv 4) (pe_callB (call_sortedDI rfl) (by rfl) gsrt boot_sorted (pa_cons (pv 2) pa_nil)))
  case qd => exact pg_name (i := 7) scBetw.nd rfl (Or.inl rfl)
  case qt => exact pt_cmp (pc_dnotin hu (pv 7) (pv 6)) (by with_unfolding_all rfl)
  case b0 => exact ps_set (i := 8) scBetw.nd rfl (Or.inl rfl) (pe_call GF hr2 (by rfl) mF kF bF .nil pass0 (pa_cons (pv 2) (pa_cons (pv 7) pa_nil)))
  case b1 =>
    refine' PS.imp (t' := tMet) (ps_for ?ra ?rb ?rc ?rd (pss_one ?rr)) ?_
    case ra => exact PassesOwn.never
    case rb => exact rfl
    case rc => exact pi_list (pv 8)
    case rd => exact pg_name (i := 3) scBetw.nd rfl (Or.inl rfl)
    case rr => exact ps_dput hu (pv 6) (pv 3) pe_bl rfl
    rintro D σ H1 ⟨dm, lp, kv, M, pts, i6, i8, l8, hp, hM, ln, k⟩
    have i3 : ∃ e3, σ[3]? = some e3 := ⟨σ[3]'(by omega), by simp [show 3 < σ.length by omega]⟩
    obtain ⟨e3, i3⟩ := i3
    refine ⟨_, i8, lp, rfl, ⟨_, SqL.of hp⟩, met_ok i3 i6 hp hM ln k ?_⟩
    intro D σ H y dm kv j3 j6 hd hl kk
    exact ⟨_, j6, _, j3, dm, _, rfl, DPut.k (k := .inl y) hd hl, kk⟩
  case b2 =>
    refine' PS.imp (t' := tApp) (ps_expr (pe_bm PySem.F.plainAttrs_list PySem.F.slot_list_append PySem.F.type_list_append mt_append (pv 5) (pa_cons (pe_tup (pa_cons (pe_ifExp (pt_cmpR op_eq (pe_callB call_len_seq (by rfl) glen PySem.boot_len (pa_cons (pe_dget hu (pv 2) (pv 7) (fun _ _ => rfl)) pa_nil)) pe_int (nomark _)) pe_str pe_str) (pa_cons (pv 8) pa_nil))) pa_nil))) ?_
    rintro D σ H1 ⟨dn, lf, lp, H0, T, kvs, y, xs, i2, i5, i7, i8, N, ny, hf, lx, k⟩
    obtain ⟨a, hg, ha⟩ := N.get ny
    refine ⟨_, i5, .inl ⟨rfl, _, SqL.of hf⟩, _, i2, _, i7, dn, .ref a, rfl, hg, a, _, rfl, .inl (SqL.of ha), rfl, _, rfl, ?_⟩
    have eN : ((Bt.nbE (Bt.dir T) y).map V.int).length = (Bt.nb T y).length := List.length_map ..
    rw [eN]
    refine ite2 (fun c => ?_) (fun c => ?_)
    · have c1 : (Bt.nb T y).length = 1 := by
        have := of_decide_eq_true c
        injection this with this
        omega
      rw [decide_eq_true c1] at k
      refine ⟨_, i8, (by show 2 ≤ sizeLine; decide), fun q hq => ?_⟩
      have nq : lf ≠ q := ne_of_none hf hq
      exact ⟨lf, xs, _, rfl, rfl, by rw [upd_ne nq]; exact hf, small1000 (by omega), k q hq⟩
    · have c1 : ¬ (Bt.nb T y).length = 1 := fun z => c (by rw [z]; rfl)
      rw [decide_eq_false c1] at k
      refine ⟨_, i8, (by show 2 ≤ sizeLine; decide), fun q hq => ?_⟩
      have nq : lf ≠ q := ne_of_none hf hq
      exact ⟨lf, xs, _, rfl, rfl, by rw [upd_ne nq]; exact hf, small1000 (by omega), k q hq⟩
  rintro D σ H1 ⟨a, b, dn, le, lf, dm, H0, HB, T, c, kvs, es, e3, e7, e8, rfl, N, two, lT, hes, lE, mE, bf, bm, nfm, sB, hf, hm, k⟩
  obtain ⟨ks, ek⟩ := N.ks
  obtain ⟨lk, mk⟩ := keys_of N ek
  refine ⟨_, rfl, _, rfl, dn, kvs, ks, rfl, sB _ _ N.hd, ek, by omega, fun t p pt _ hp => ?_⟩
  have s1 : Same H1 (upd H1 p (.lst (t.map V.int))) := Same.new' hp
  have hp1 : upd H1 p (.lst (t.map V.int)) p = some (.lst (t.map V.int)) := upd_same
  generalize upd H1 p (.lst (t.map V.int)) = H2 at s1 hp1 ⊢
  have lt : t.length ≤ 60 := by rw [pt.length_eq]; omega
  have sB2 := sB.trans s1
  refine ⟨le, p, _, _, rfl, rfl, sB2 le _ hes, hp1, Nat.le_of_lt (small1000 (by rw [List.length_map, List.length_map]; omega)), fun ls hls => ?_⟩
  have s2 : Same H2 (upd H2 ls (.lst (es.map V.int ++ t.map V.int))) := Same.new' hls
  have hl2 : upd H2 ls (.lst (es.map V.int ++ t.map V.int)) ls = some (.lst ((es ++ t).map V.int)) := by rw [upd_same, List.map_append]
  generalize upd H2 ls (.lst (es.map V.int ++ t.map V.int)) = H3 at s2 hl2 ⊢
  have sB3 := sB2.trans s2
  have hf3 := (s1.trans s2) lf _ hf
  have hm3 := (s1.trans s2) dm _ hm
  have nlf : ls ≠ lf := fun z => by rw [z] at hls; rw [s1 lf _ hf] at hls; cases hls
  have nlm : ls ≠ dm := fun z => by rw [z] at hls; rw [s1 dm _ hm] at hls; cases hls
  have mS : ∀ y ∈ es ++ t, Bt.nb T y ≠ [] := fun y hy => by
    rcases List.mem_append.mp hy with h | h
    · intro z
      have := (mE y).mp h
      rw [z] at this
      cases this
    · exact (mk y).mp (pt.mem_iff.mp h)
  refine ⟨ls, rfl, ⟨_, SqL.of hl2⟩, for_list (K := K) (a := ls) (xs := (es ++ t).map V.int)
    (fun i σ H4 => ∃ (e3 e7 e8 : Option V) (fs : List Addr) (F : List (Bool × List Int)) (kv : List (Key × V)), σ = [some (.ref a), some (.ref b), some (.ref dn), e3, some (.ref le), some (.ref lf), some (.ref dm), e7, e8] ∧ Same HB H4 ∧ H4 ls = some (.lst ((es ++ t).map V.int)) ∧ H4 lf = some (.lst (fs.map V.ref)) ∧ FsH HB H4 fs F ∧ Met H4 dm kv (F.flatMap (·.2)) ∧ Bt.Found T F ∧
      (∀ q ∈ (es ++ t).take i, q ∈ F.flatMap (·.2)) ∧ (F.flatMap (·.2)).length ≤ 200 * i ∧ F.length ≤ i)
    ⟨_, _, _, [], [], [], rfl, sB3, hl2, hf3, .nil, ⟨hm3, fun p => rfl, Nat.le_refl _⟩, Bt.Found.nil, fun q hq => (nomatch hq), Nat.le_refl _, Nat.le_refl _⟩ (fun i σ H4 _ ⟨_, _, _, _, _, _, _, _, h, _⟩ => SqL.of h) ?_ ?_⟩
  · rintro i x σ H4 hi ⟨e3, e7, e8, fs, F, kv, rfl, s4, hl4, hf4, hF, met, fnd, all, lM, lF⟩
    obtain ⟨y, rfl, ey⟩ := map_int_at hi
    have hil : i < (es ++ t).length := (List.getElem?_eq_some_iff.mp ey).1
    have l120 : (es ++ t).length ≤ 120 := by rw [List.length_append]; omega
    have my : y ∈ es ++ t := List.mem_of_getElem? ey
    have ny := mS y my
    unfold gName
    dsimp only [List.set_cons_succ, List.set_cons_zero]
    have dg : DGet H4 dm (.int y) (valV kv (.inl y)) := DGet.k (k := .inl y) met.hd
    refine ⟨_, rfl, _, rfl, dm, _, rfl, dg, _, rfl, ?_⟩
    rw [met.iff y]
    refine ite2 (fun cy => ?_) (fun cy => ?_)
    · have cy : y ∉ F.flatMap (·.2) := by simpa using cy
      refine ⟨_, rfl, _, rfl, dn, y, H0, T, kvs, rfl, N.same s4, two.tie, by omega, ny, fun lp pts H5 hlp s5 hp5 wk lpts => ?_⟩
      dsimp only [gName, List.set_cons_succ, List.set_cons_zero]
      have met5 : Met H5 dm kv (F.flatMap (·.2)) := ⟨s5 _ _ met.hd, met.iff, met.len⟩
      refine ⟨dm, lp, kv, F.flatMap (·.2), pts, rfl, rfl, by show 8 < 9; decide, hp5, met5, by omega, fun e3' kv' H6 fr met6 => ?_⟩
      dsimp only [List.set_cons_succ, List.set_cons_zero]
      have s46 : ∀ b o, b ≠ dm → H4 b = some o → H6 b = some o := fun b o nb e => fr b o nb (s5 b o e)
      have sB6 : Same HB H6 := fun b o e => s46 b o (ne_of_none e bm) (s4 b o e)
      have nlp : lp ≠ dm := fun z => by rw [z, met.hd] at hlp; cases hlp
      have hf6 := s46 lf _ nfm hf4
      have hp6 := fr lp _ nlp hp5
      have apart := fnd.apart two wk cy
      have wh : Bt.Whole T (decide ((Bt.nb T y).length = 1), pts) := by
        by_cases c1 : (Bt.nb T y).length = 1
        · rw [decide_eq_true c1]
          exact Bt.row_of two wk c1
        · rw [decide_eq_false c1]
          refine Bt.ring_of two wk c1 fun q hq z => ?_
          have qe : q ∈ es := (mE q).mpr z
          have ie : es.length ≤ i := by
            rcases Nat.lt_or_ge i es.length with w | w
            · exfalso
              rw [List.getElem?_append_left w] at ey
              exact c1 ((mE y).mp (List.mem_of_getElem? ey))
            · exact w
          refine apart q hq (all q ?_)
          rw [List.take_append]
          exact List.mem_append_left _ (by rw [List.take_of_length_le ie]; exact qe)
      have fnd' := fnd.snoc wh apart
      have hne : ∀ j ∈ F ++ [(decide ((Bt.nb T y).length = 1), pts)], j.2 ≠ [] := fun j hj => whole_ne (fnd'.wh j hj)
      have bl : HB lp = none := s4.free hlp
      have lfs := Paired.length hF
      refine ⟨dn, lf, lp, H0, T, kvs, y, _, rfl, rfl, rfl, rfl, N.same sB6, ny, hf6, by rw [List.length_map]; omega, fun q hq => ?_⟩
      have F6 : FsH HB H6 fs F := paired_imp (fun f k ⟨m, h1, h2, h3⟩ => ⟨m, s46 _ _ (fun z => by subst z; rw [met.hd] at h1; cases h1) h1, s46 _ _ (fun z => by subst z; rw [met.hd] at h2; cases h2) h2, h3⟩) hF
      generalize decide ((Bt.nb T y).length = 1) = r at fnd' hne wh
      have s7 : Same H6 (upd H6 q (.tup [.str (wrd r), .ref lp])) := Same.new' hq
      have hq7 : upd H6 q (.tup [.str (wrd r), .ref lp]) q = some (.tup [.str (wrd r), .ref lp]) := upd_same
      generalize upd H6 q (.tup [.str (wrd r), .ref lp]) = H7 at s7 hq7
      have F7 : FsH HB H7 (fs ++ [q]) (F ++ [(r, pts)]) := paired_snoc (FsH.same F6 s7) ⟨lp, hq7, s7 lp _ hp6, bl⟩
      have hf7 := s7 lf _ hf6
      have k8 : Kp H7 (upd H7 lf (.lst (fs.map V.ref ++ [.ref q]))) := Kp.upd hf7
      have eM : (F ++ [(r, pts)]).flatMap (·.2) = F.flatMap (·.2) ++ pts := by simp
      refine ⟨_, _, _, fs ++ [q], F ++ [(r, pts)], kv', rfl, fun b o e => ?_, ?_, by rw [upd_same, List.map_append]; rfl, FsH.kp k8 F7 hne, ⟨?_, ?_, ?_⟩, fnd', fun p hp => ?_, ?_, ?_⟩
      · rw [upd_ne (ne_of_none e bf)]; exact s7 b o (sB6 b o e)
      · rw [upd_ne nlf]; exact s7 ls _ (s46 ls _ nlm hl4)
      · rw [upd_ne (Ne.symm nfm)]; exact s7 dm _ met6.hd
      · rw [eM]; exact met6.iff
      · rw [eM]; exact met6.len
      · rw [eM]
        rw [List.take_succ, ey] at hp
        rcases List.mem_append.mp hp with h | h
        · exact List.mem_append_left _ (all p h)
        · have : p = y := by simpa using h
          subst this
          exact List.mem_append_right _ (List.mem_of_getElem? wk.h0)
      · rw [eM, List.length_append]; omega
      · rw [List.length_append]; show _ + 1 ≤ _; omega
    · have cy : y ∈ F.flatMap (·.2) := Decidable.byContradiction fun h => cy (by rw [decide_eq_false h]; rfl)
      refine ⟨_, _, _, fs, F, kv, rfl, s4, hl4, hf4, hF, met, fnd, fun p hp => ?_, by omega, by omega⟩
      rw [List.take_succ, ey] at hp
      rcases List.mem_append.mp hp with h | h
      · exact all p h
      · have : p = y := by simpa using h
        exact this ▸ cy
  · rintro σ H4 ⟨e3, e7, e8, fs, F, kv, rfl, s4, hl4, hf4, hF, met, fnd, all, lM, lF⟩
    have l120 : (es ++ t).length ≤ 120 := by rw [List.length_append]; omega
    rw [List.length_map] at lF all
    rw [List.take_length] at all
    refine k _ _ _ fs F H4 s4 hf4 hF fnd (fnd.perm two fun p hp => all p (List.mem_append_right _ (pt.mem_iff.mpr ((mk p).mpr hp)))) (by omega)
end
end
end K25

/-! ### k25: between, all of it; the small ones of the law -/
namespace K25
open PySem L2 PyProof.Rows
section
variable {P : Program} {w : World} {K : PySem.W.Frag} {mg : Str → Option Value} {base : Heap}
theorem dif_len (O T : List (List Int)) : (Bt.dif O T).length ≤ O.length + T.length := by
  unfold Bt.dif Bt.onl
  rw [List.length_append]
  have h1 := List.length_filter_le (fun t => !decide (t ∈ T)) O
  have h2 := List.length_filter_le (fun t => !decide (t ∈ O)) T
  omega
theorem ok_betw {f fO fN fF : Addr} {fd fdO fdN fdF : FuncData} (F : Fun K "between" "between" sBetw f fd) (gsrt : mg "sorted" = none) (glen : mg "len" = none)
    (GO : FnOk P w K mg base CX0 1 fO fdO ["one", "other"] spOnly) (mO : mg "only_in" = some (.ref fO)) (kO : PySem.W.keepIn K (.ref fO) = true) (bO : Binds K fdO ["one", "other"] [])
    (GN : FnOk P w K mg base CX0 1 fN fdN ["ties"] spNby) (mN : mg "neighbours_by" = some (.ref fN)) (kN : PySem.W.keepIn K (.ref fN) = true) (bN : Binds K fdN ["ties"] [])
    (GF : FnOk P w K mg base CX0 2 fF fdF ["neighbours", "start"] spFoll) (mF : mg "followed" = some (.ref fF)) (kF : PySem.W.keepIn K (.ref fF) = true) (bF : Binds K fdF ["neighbours", "start"] []) :
    FnOk P w K mg base CX0 3 f fd ["one", "other"] spBetw := by
  refine F.ok scBetw (fun vs H Q E h => ?_) (fun cdv A outer s H vs Q E hr h => ?_)
  · obtain ⟨a, b, rs, qs, O, T, rfl, _⟩ := h
    rfl
  · obtain ⟨a, b, rs, qs, O, T, rfl, ha, hb, hO, hT, mO', mT', lO, lT, hQ⟩ := h
    have hr1 : Room 1 (XW P w K mg base f cdv A outer s H E).A := hr.mono (by decide)
    refine' ⟨_, pss_cons ?s0 (pss_cons (ok_ends gsrt glen hr) (pss_cons ?s2 (pss_cons ?s3 (pss_cons (ok_main gsrt glen GF mF kF bF hr) (pss_one (ps_ret (pv 5))))))), ?_⟩
    case s0 => exact ps_set (i := 2) scBetw.nd rfl (Or.inr rfl) (pe_call GN hr1 (by rfl) mN kN bN .nil pass0 (pa_cons (pe_op op_cat (pe_call GO hr1 (by rfl) mO kO bO .nil pass0 (pa_cons (pv 0) (pa_cons (pv 1) pa_nil))) (pe_call GO hr1 (by rfl) mO kO bO .nil pass0 (pa_cons (pv 1) (pa_cons (pv 0) pa_nil)))) pa_nil))
    case s2 => exact ps_set (i := 5) scBetw.nd rfl (Or.inl rfl) (pe_lst pa_nil)
    case s3 => exact ps_set (i := 6) scBetw.nd rfl (Or.inl rfl) pe_dnewK
    refine ⟨_, rfl, _, rfl, a, b, rfl, .inr ⟨rs, qs, O, T, ha, hb, hO, hT, by omega, fun l1 z1 H1 n1 s1 h1 t1 => ?_⟩⟩
    refine ⟨_, rfl, _, rfl, b, a, rfl, .inr ⟨qs, rs, T, O, s1 _ _ hb, s1 _ _ ha, TupsH.sm hT s1, TupsH.sm hO s1, by omega, fun l2 z2 H2 n2 s2 h2 t2 => ?_⟩⟩
    have q1 := Paired.length t1
    have q2 := Paired.length t2
    have dl := dif_len O T
    have dl' : (Bt.dif O T).length = z1.length + z2.length := by unfold Bt.dif; rw [List.length_append]; omega
    refine ⟨l1, l2, _, _, rfl, rfl, s2 _ _ h1, h2, Nat.le_of_lt (small1000 (by rw [List.length_map, List.length_map]; omega)), fun l3 n3 => ?_⟩
    have s3 : Same H2 (upd H2 l3 (.lst (z1.map V.ref ++ z2.map V.ref))) := Same.new' n3
    have h3 : upd H2 l3 (.lst (z1.map V.ref ++ z2.map V.ref)) l3 = some (.lst ((z1 ++ z2).map V.ref)) := by rw [upd_same, List.map_append]
    generalize upd H2 l3 (.lst (z1.map V.ref ++ z2.map V.ref)) = H3 at s3 h3 ⊢
    have app : ∀ {a1 : List Addr} {b1 : List (List Int)}, TupsH H3 a1 b1 → TupsH H3 z2 (Bt.onl T O) → TupsH H3 (a1 ++ z2) (b1 ++ Bt.onl T O) := by
      intro a1 b1 h g
      induction h with
      | nil => exact g
      | cons p _ ih => exact .cons p ih
    have t3 : TupsH H3 (z1 ++ z2) (Bt.dif O T) := app (TupsH.sm t1 (s2.trans s3)) (TupsH.sm t2 s3)
    have two := Bt.dif_two mO' mT'
    have s03 := s1.trans (s2.trans s3)
    refine ⟨l3, _, _, rfl, h3, t3, two.tie, by omega, fun dn kvs H4 s4 N => ?_⟩
    dsimp only [gName, List.set_cons_succ, List.set_cons_zero]
    refine ⟨dn, H3, Bt.dif O T, kvs, rfl, N, by omega, fun le es H5 s5 he le5 mE => ?_⟩
    dsimp only [List.set_cons_succ, List.set_cons_zero]
    refine ⟨Nat.zero_le _, fun lf nf => ?_⟩
    intro dm nm
    have s6 : Same H5 (upd H5 lf (.lst [])) := Same.new' nf
    have s7 := s6.trans (Same.new' (o := .dK []) nm)
    have nfm : lf ≠ dm := ne_of_none (o := .lst []) upd_same nm
    have bm : H5 dm = none := s6.free nm
    have s05 := s03.trans (s4.trans s5)
    refine ⟨a, b, dn, le, lf, dm, H3, H5, Bt.dif O T, _, kvs, es, _, _, _, rfl, N.same s5, two, by omega, he, le5, mE, nf, bm, nfm, s7, by rw [upd_ne nfm]; exact upd_same, upd_same, fun e3 e7 e8 fs F H8 s8 hf8 hF fnd pm lF => ?_⟩
    refine ⟨_, rfl, hQ lf fs F H8 (s05.free nf) (s05.trans s8) hf8 ?_ fnd pm lF⟩
    exact paired_imp (fun f k ⟨m, x1, x2, x3⟩ => ⟨m, x1, x2, s05.free x3⟩) hF
end
end K25

/-! ### k25: the small ones of the law, piece -/
namespace K25
open PySem L2 PyProof.Rows
section
variable {P : Program} {w : World} {K : PySem.W.Frag} {mg : Str → Option Value} {base : Heap}
def spTie : Sp := fun vs H Q _ => ∃ a b : Int, vs = [.int a, .int b] ∧ ∀ p, H p = none → Q (.ref p) (upd H p (.tup ((Bt.tie a b).map V.int)))
theorem scTie : FnScope ["_law_a", "_law_b"] ["_law_a", "_law_b"] (defScope sTie) := ⟨rfl, rfl, rfl, by decide +kernel, rfl, by decide +kernel, by decide +kernel⟩
theorem ok_tie {f : Addr} {fd : FuncData} (F : Fun K "_law_tie" "_law_tie" sTie f fd) (gmin : mg "min" = none) (gmax : mg "max" = none) : FnOk P w K mg base CX0 1 f fd ["_law_a", "_law_b"] spTie := by
  refine F.ok scTie (fun vs H Q E h => ?_) (fun cdv A outer s H vs Q E hr h => ?_)
  · obtain ⟨a, b, rfl, _⟩ := h
    rfl
  · obtain ⟨a, b, rfl, h⟩ := h
    refine ⟨_, pss_one (ps_ret (pe_tup (pa_cons (pe_callB (call_min2 rfl) (by rfl) gmin boot_min (pa_cons (pv 0) (pa_cons (pv 1) pa_nil)))
      (pa_cons (pe_callB (call_max2 rfl) (by rfl) gmax boot_max (pa_cons (pv 0) (pa_cons (pv 1) pa_nil))) pa_nil)))), ?_⟩
    exact ⟨_, rfl, _, rfl, a, b, rfl, _, rfl, _, rfl, a, b, rfl, (by show 2 ≤ sizeLine; decide), fun p hp => h p hp⟩
def spCell (K : PySem.W.Frag) : Sp := fun vs H Q _ => ∃ (a : Addr) (ns : List Int) (k : Int), vs = [.ref a, .int k] ∧ 0 ≤ k ∧ SqL K H a (ns.map V.int) ∧ ∀ n : Int, Q (.int n) H
theorem scCell : FnScope ["_law_script", "_law_k"] ["_law_script", "_law_k"] (defScope sCell) := ⟨rfl, rfl, rfl, by decide +kernel, rfl, by decide +kernel, by decide +kernel⟩
theorem ok_cell {f : Addr} {fd : FuncData} (F : Fun K "_law_cell_at" "_law_cell_at" sCell f fd) (glen : mg "len" = none) : FnOk P w K mg base CX0 1 f fd ["_law_script", "_law_k"] (spCell K) := by
  refine F.ok scCell (fun vs H Q E h => ?_) (fun cdv A outer s H vs Q E hr h => ?_)
  · obtain ⟨a, ns, k, rfl, _⟩ := h
    rfl
  · obtain ⟨a, ns, k, rfl, k0, hS, hQ⟩ := h
    refine ⟨_, pss_cons (ps_if (pt_cmpR op_lt (pv 1) (pe_callB call_len_seq (by rfl) glen PySem.boot_len (pa_cons (pv 0) pa_nil)) (nomark _)) (pss_one (ps_ret (pe_ix ix_list (pv 0) (pv 1) (fun _ _ => rfl)))) pss_nil) (pss_one (ps_ret pe_int)), ?_⟩
    refine ⟨_, rfl, _, rfl, a, _, rfl, .inl hS, _, _, rfl, rfl, _, rfl, ?_⟩
    refine ite2 (fun c => ?_) (fun c => hQ 0)
    have c := of_decide_eq_true c
    rw [List.length_map] at c
    obtain ⟨v, _, hv⟩ := pick2 (xs := ns) k0 c
    exact ⟨_, rfl, _, rfl, a, _, _, V.int v, rfl, rfl, hS, hv, hQ _⟩
structure Kit (K : PySem.W.Frag) (mg : Str → Option Value) : Prop where
  ii : PySem.W.kitOne K (.type "int") (.type "int") = some true
  ib : PySem.W.kitOne K (.type "int") (.type "bool") = some false
  ll : PySem.W.kitOne K (.type "list") (.type "list") = some true
  tt : PySem.W.kitOne K (.type "tuple") (.type "tuple") = some true
  gis : mg "isinstance" = none
  gint : mg "int" = none
  gbool : mg "bool" = none
  glist : mg "list" = none
  gtup : mg "tuple" = none
def spWhole : Sp := fun vs H Q _ => ∃ n : Int, vs = [.int n] ∧ Q (.bl true) H
theorem scWhole : FnScope ["_law_found"] ["_law_found"] (defScope sWhole) := ⟨rfl, rfl, rfl, by decide +kernel, rfl, by decide +kernel, by decide +kernel⟩
theorem ok_whole {f : Addr} {fd : FuncData} (F : Fun K "_law_whole" "_law_whole" sWhole f fd) (k : Kit K mg) : FnOk P w K mg base CX0 1 f fd ["_law_found"] spWhole := by
  refine F.ok scWhole (fun vs H Q E h => ?_) (fun cdv A outer s H vs Q E hr h => ?_)
  · obtain ⟨n, rfl, _⟩ := h
    rfl
  · obtain ⟨n, rfl, hQ⟩ := h
    refine ⟨_, pss_one (ps_ret (pe_and (pe_callB call_isV (by rfl) k.gis boot_isinstance (pa_cons (pv 0) (pa_cons (pe_bltn (v := .ty "int") (by rfl) k.gint bt_int rfl) pa_nil)))
      (pe_one (pe_not (pe_callB call_isV (by rfl) k.gis boot_isinstance (pa_cons (pv 0) (pa_cons (pe_bltn (v := .ty "bool") (by rfl) k.gbool bt_bool rfl) pa_nil))))))), ?_⟩
    exact ⟨_, rfl, V.int n, "int", .type "int", true, rfl, .int n, k.ii, ⟨true, rfl, iteT ⟨_, rfl, V.int n, "bool", .type "int", false, rfl, .int n, k.ib, ⟨false, rfl, hQ⟩⟩⟩⟩
/-! order -/
def spOrder (K : PySem.W.Frag) : Sp := fun vs H Q _ => ∃ (a : Addr) (m : Int) (ns : List Int), vs = [.ref a, .int m] ∧ SqL K H a (ns.map V.int) ∧ 0 ≤ m ∧ m ≤ 24 ∧
  ∀ (l : Addr) (t : List Int) (H' : Hp), H l = none → Same H H' → H' l = some (.lst (t.map V.int)) → t.Perm (upto m.toNat) → Q (.ref l) H'
abbrev nmO : List Str := ["_law_script", "_law_many", "_law_order_here", "_law_k", "_law_number"]
theorem scOrder : FnScope nmO ["_law_script", "_law_many"] (defScope sOrder) := ⟨rfl, rfl, rfl, by decide +kernel, rfl, by decide +kernel, by decide +kernel⟩
theorem ok_order {f fC : Addr} {fd fdC : FuncData} (F : Fun K "_law_order" "_law_order" sOrder f fd) (grange : mg "range" = none)
    (GC : FnOk P w K mg base CX0 1 fC fdC ["_law_script", "_law_k"] (spCell K)) (mC : mg "_law_cell_at" = some (.ref fC)) (kC : PySem.W.keepIn K (.ref fC) = true) (bC : Binds K fdC ["_law_script", "_law_k"] []) :
    FnOk P w K mg base CX0 2 f fd ["_law_script", "_law_many"] (spOrder K) := by
  refine F.ok scOrder (fun vs H Q E h => ?_) (fun cdv A outer s H vs Q E hr h => ?_)
  · obtain ⟨a, m, ns, rfl, _⟩ := h
    rfl
  · obtain ⟨a, m, ns, rfl, hS, m0, m1, hQ⟩ := h
    refine ⟨_, pss_cons (ps_set (i := 2) scOrder.nd rfl (Or.inl rfl) (pe_lst pa_nil))
      (pss_cons (ps_for PassesOwn.never rfl (pi_range1 rfl grange (pa_cons (pv 1) pa_nil)) (pg_name (i := 3) scOrder.nd rfl (Or.inl rfl))
        (pss_cons (ps_set (i := 4) scOrder.nd rfl (Or.inl rfl) (pe_op op_mod (pe_op op_mul (pe_op op_add (pe_op op_add (pe_call GC hr rfl mC kC bC .nil pass0 (pa_cons (pv 0) (pa_cons (pe_op op_add (pv 3) pe_int) pa_nil))) (pe_op op_mul pe_int (pv 3))) pe_int) pe_int) pe_int))
        (pss_one (ps_expr (pe_bm PySem.F.plainAttrs_list PySem.F.slot_list_insert PySem.F.type_list_insert mt_insert (pv 2) (pa_cons (pe_op op_mod (pv 4) (pe_op op_add (pv 3) pe_int)) (pa_cons (pv 3) pa_nil)))))))
      (pss_one (ps_ret (pv 2)))), ?_⟩
    refine ⟨Nat.zero_le _, fun l hl => ?_⟩
    have s0 : Same H (upd H l (.lst [])) := Same.new' hl
    refine ⟨_, rfl, m, rfl, by omega, by omega, for_range (lo := 0) (n := m.toNat) (fun i σ H2 => ∃ (t : List Int) (e3 e4 : Option V), σ = [some (.ref a), some (.int m), some (.ref l), e3, e4] ∧ Same H H2 ∧ H2 l = some (.lst (t.map V.int)) ∧ t.Perm (upto i) ∧ i ≤ m.toNat)
      ⟨[], none, none, rfl, s0, upd_same, List.Perm.refl _, Nat.zero_le _⟩ ?_ ?_⟩
    · rintro i σ H2 hi ⟨t, e3, e4, rfl, s2, h2, hp, li⟩
      have lt := hp.length_eq
      rw [upto_len] at lt
      refine ⟨_, rfl, _, rfl, _, _, rfl, rfl, a, ns, _, rfl, by omega, s2.seq hS, fun n => ⟨_, rfl, _, _, rfl, rfl, .inl ⟨by decide, by decide⟩, _, _, rfl, rfl, _, _, rfl, rfl, _, _, rfl, rfl, .inr ⟨by decide, by decide⟩, _, _, rfl, rfl, (by show (0 : Int) < 2147483647; decide), ?_⟩⟩
      dsimp only [gName, List.set_cons_succ, List.set_cons_zero]
      generalize (n + 7 * (0 + (i : Int)) + 3) * 48271 % 2147483647 = nu
      refine ⟨_, rfl, .inl ⟨rfl, _, SqL.of h2⟩, _, rfl, _, rfl, _, _, rfl, rfl, _, _, rfl, rfl, (by show (0 : Int) < 0 + (i : Int) + 1; omega), _, rfl, l, _, _, _, rfl, rfl, h2, Int.emod_nonneg _ (by omega), ?_, ?_, ?_⟩
      · rw [List.length_map, lt]
        have := Int.emod_lt_of_pos nu (show 0 < 0 + (i : Int) + 1 by omega)
        omega
      · rw [List.length_map]; omega
      · refine ⟨t.take (nu % (0 + (i : Int) + 1)).toNat ++ (0 + (i : Int)) :: t.drop (nu % (0 + (i : Int) + 1)).toNat, _, _, rfl, fun c o e => ?_, ?_, ?_, hi⟩
        · rw [upd_ne (ne_of_none e hl)]; exact s2 c o e
        · rw [upd_same, List.map_append, List.map_cons, List.map_take, List.map_drop]
        · rw [upto_succ, Int.zero_add]
          refine List.perm_middle.trans ?_
          rw [List.take_append_drop]
          exact (List.Perm.cons _ hp).trans (List.perm_append_singleton _ _).symm
    · rintro σ H2 ⟨t, e3, e4, rfl, s2, h2, hp, li⟩
      exact ⟨_, rfl, hQ l t H2 hl s2 h2 hp⟩
/-! piece -/
/-- the points of ties: from a place on, to a place -/
def Pts (p : List Int) (i m : Nat) (A : List (List Int)) : Prop := ∀ x ∈ A.flatten, ∃ j, i ≤ j ∧ j < m ∧ p[j]? = some x
theorem Pts.more {p : List Int} {i m m' : Nat} {A : List (List Int)} (h : Pts p i m A) (l : m ≤ m') : Pts p i m' A := fun x hx => let ⟨j, h0, h1, h2⟩ := h x hx; ⟨j, h0, by omega, h2⟩
theorem mat_nil : Bt.Mat [] := ⟨fun _ h => (nomatch h), List.nodup_nil⟩
theorem mat_snoc {A : List (List Int)} (h : Bt.Mat A) {x y : Int} (n : x ≠ y) (hx : x ∉ A.flatten) (hy : y ∉ A.flatten) : Bt.Mat (A ++ [Bt.tie x y]) := by
  refine ⟨fun t ht => ?_, ?_⟩
  · rcases List.mem_append.mp ht with w | w
    · exact h.1 t w
    · rw [List.mem_singleton] at w
      exact w ▸ Bt.Tie.tie n
  · rw [List.flatten_append, List.nodup_append]
    refine ⟨h.2, ?_, fun a ha b hb w => ?_⟩
    · obtain ⟨u, v, e, l⟩ := Bt.Tie.tie n
      show ([Bt.tie x y].flatten).Nodup
      rw [e]
      simp
      omega
    · have hb : b ∈ Bt.tie x y := by simpa using hb
      rcases Bt.mem_tie.mp hb with q | q
      · exact hx (q ▸ w ▸ ha)
      · exact hy (q ▸ w ▸ ha)
theorem nd_at {p : List Int} (h : p.Nodup) {i j : Nat} {x : Int} (h1 : p[i]? = some x) (h2 : p[j]? = some x) : i = j := by
  have h := List.nodup_iff_pairwise_ne.mp h
  rw [List.pairwise_iff_getElem] at h
  obtain ⟨a1, e1⟩ := List.getElem?_eq_some_iff.mp h1
  obtain ⟨a2, e2⟩ := List.getElem?_eq_some_iff.mp h2
  rcases Nat.lt_trichotomy i j with q | q | q
  · exact absurd (e1.trans e2.symm) (h i j a1 a2 q)
  · exact q
  · exact absurd (e2.trans e1.symm) (h j i a2 a1 q)
/-- one more tie: of two places behind, or ahead -/
theorem pts_snoc {p : List Int} (nd : p.Nodup) {i m m' : Nat} {A : List (List Int)} (hA : Bt.Mat A) (h : Pts p i m A) {u v : Nat} {x y : Int} (eu : p[u]? = some x) (ev : p[v]? = some y) (nuv : u ≠ v) (hu : u < i ∨ m ≤ u) (hv : v < i ∨ m ≤ v) {i' : Nat} (iu : i' ≤ u) (iv : i' ≤ v) (ii : i' ≤ i) (mm : m ≤ m') (um : u < m') (vm : v < m') :
    Bt.Mat (A ++ [Bt.tie x y]) ∧ Pts p i' m' (A ++ [Bt.tie x y]) := by
  have nx : x ∉ A.flatten := fun z => by
    obtain ⟨j, j0, j1, ej⟩ := h x z
    have := nd_at nd eu ej
    omega
  have ny : y ∉ A.flatten := fun z => by
    obtain ⟨j, j0, j1, ej⟩ := h y z
    have := nd_at nd ev ej
    omega
  refine ⟨mat_snoc hA (fun z => nuv (by subst z; exact nd_at nd eu ev)) nx ny, fun z hz => ?_⟩
  rw [List.flatten_append] at hz
  rcases List.mem_append.mp hz with w | w
  · obtain ⟨j, j0, j1, ej⟩ := h z w
    exact ⟨j, by omega, by omega, ej⟩
  · have w : z ∈ Bt.tie x y := by simpa using w
    rcases Bt.mem_tie.mp w with q | q
    · exact ⟨u, iu, um, q ▸ eu⟩
    · exact ⟨v, iv, vm, q ▸ ev⟩
/-- both lists: what they were, and ties more -/
structure Bo (H : Hp) (la lb : Addr) (rs qs : List Addr) (O T : List (List Int)) : Prop where
  ha : H la = some (.lst (rs.map V.ref))
  hb : H lb = some (.lst (qs.map V.ref))
  hO : TupsH H rs O
  hT : TupsH H qs T
  ne : la ≠ lb
theorem Bo.same {H H' : Hp} {la lb : Addr} {rs qs : List Addr} {O T : List (List Int)} (h : Bo H la lb rs qs O T) (z : Same H H') : Bo H' la lb rs qs O T := ⟨z _ _ h.ha, z _ _ h.hb, TupsH.sm h.hO z, TupsH.sm h.hT z, h.ne⟩
theorem Bo.swap {H : Hp} {la lb : Addr} {rs qs : List Addr} {O T : List (List Int)} (h : Bo H la lb rs qs O T) : Bo H lb la qs rs T O := ⟨h.hb, h.ha, h.hT, h.hO, Ne.symm h.ne⟩
theorem Bo.app {H : Hp} {la lb q : Addr} {rs qs : List Addr} {O T : List (List Int)} (h : Bo H la lb rs qs O T) {x y : Int} (hq : H q = none) :
    Bo (upd (upd H q (.tup ((Bt.tie x y).map V.int))) la (.lst (rs.map V.ref ++ [.ref q]))) la lb (rs ++ [q]) qs (O ++ [Bt.tie x y]) T := by
  have h1 := h.same (Same.new' (o := .tup ((Bt.tie x y).map V.int)) hq)
  have hq1 : upd H q (.tup ((Bt.tie x y).map V.int)) q = some (.tup ((Bt.tie x y).map V.int)) := upd_same
  generalize upd H q (.tup ((Bt.tie x y).map V.int)) = H1 at h1 hq1 ⊢
  have tu : ∀ b xs, H1 b = some (.tup xs) → upd H1 la (.lst (rs.map V.ref ++ [.ref q])) b = some (.tup xs) := fun b xs e => by
    rw [upd_ne (fun z => by subst z; rw [h1.ha] at e; cases e)]; exact e
  refine ⟨by rw [upd_same, List.map_append]; rfl, by rw [upd_ne (Ne.symm h.ne)]; exact h1.hb, TupsH.tu (paired_snoc h1.hO ⟨hq1, by unfold Bt.tie; simp⟩) tu, TupsH.tu h1.hT tu, h.ne⟩
theorem Bo.fr {H H0 : Hp} {la lb q : Addr} {o1 o2 : HO} (hq : H q = none) (fr : ∀ b o, b ≠ la → b ≠ lb → H0 b = some o → H b = some o) : ∀ b o, b ≠ la → b ≠ lb → H0 b = some o → upd (upd H q o1) la o2 b = some o := fun b o n1 n2 e => by
  have := fr b o n1 n2 e
  rw [upd_ne n1, upd_ne (ne_of_none this hq)]
  exact this
def spPiece : Sp := fun vs H Q _ => ∃ (la lb lp : Addr) (kd : Int) (rs qs : List Addr) (O T : List (List Int)) (p : List Int), vs = [.ref la, .ref lb, .ref lp, .int kd] ∧ Bo H la lb rs qs O T ∧ H lp = some (.lst (p.map V.int)) ∧ lp ≠ la ∧ lp ≠ lb ∧ p.Nodup ∧ p.length ≤ 24 ∧ O.length ≤ 100 ∧ T.length ≤ 100 ∧ 0 ≤ kd ∧ kd ≤ 4 ∧
  ∀ rs' qs' A B H', (∀ b o, b ≠ la → b ≠ lb → H b = some o → H' b = some o) → Bo H' la lb rs' qs' (O ++ A) (T ++ B) → Bt.Mat A → Bt.Mat B → Pts p 0 p.length A → Pts p 0 p.length B → Q .non H'
abbrev nmP : List Str := ["_law_one", "_law_other", "_law_piece_here", "_law_kind", "_law_k"]
abbrev psP : List Str := ["_law_one", "_law_other", "_law_piece_here", "_law_kind"]
theorem scPiece : FnScope nmP psP (defScope sPiece) := ⟨rfl, rfl, rfl, by decide +kernel, rfl, by decide +kernel, by decide +kernel⟩
abbrev XP (P : Program) (w : World) (K : PySem.W.Frag) (mg : Str → Option Value) (base : Heap) (f : Addr) (cdv : Value) (A : Around) (outer : List Env) (s : Shared) (H : Hp) (E : XK) : Cx := (cxOf CX0 P w K mg base nmP "_law_piece" (defScope sPiece) f cdv A outer s H E).nox
abbrev pieceAt (i : Nat) : Stmt := (defBody sPiece).getD i (.Pass ⟨0, 0, 0, 0⟩)
section
variable {f : Addr} {cdv : Value} {A : Around} {outer : List Env} {s : Shared} {H : Hp} {E : XK}
/-- the ties of a row, by turns -/
def tTurn : TS := fun D σ H => ∃ (la lb lp : Addr) (kd : Int) (rs qs : List Addr) (O T : List (List Int)) (p : List Int) (e4 : Option V), σ = [some (.ref la), some (.ref lb), some (.ref lp), some (.int kd), e4] ∧ Bo H la lb rs qs O T ∧ H lp = some (.lst (p.map V.int)) ∧ lp ≠ la ∧ lp ≠ lb ∧ p.Nodup ∧ 2 ≤ p.length ∧ p.length ≤ 24 ∧ O.length ≤ 100 ∧ T.length ≤ 100 ∧ 0 ≤ kd ∧
  ∀ (e4 : Option V) rs' qs' A B H', (∀ b o, b ≠ la → b ≠ lb → H b = some o → H' b = some o) → Bo H' la lb rs' qs' (O ++ A) (T ++ B) → Bt.Mat A → Bt.Mat B → Pts p 0 p.length A → Pts p (if kd % 2 = 0 then 1 else 0) (p.length - ((p.length : Int) - 1 + kd).toNat % 2) B → A.length ≤ 24 → B.length ≤ 24 → D.nx [some (.ref la), some (.ref lb), some (.ref lp), some (.int kd), e4] H'
theorem ok_turn (grange : mg "range" = none) (glen : mg "len" = none) {fT : Addr} {fdT : FuncData} (GT : FnOk P w K mg base CX0 1 fT fdT ["_law_a", "_law_b"] spTie) (mT : mg "_law_tie" = some (.ref fT)) (kT : PySem.W.keepIn K (.ref fT) = true) (bT : Binds K fdT ["_law_a", "_law_b"] [])
    (hr : Room 1 (XP P w K mg base f cdv A outer s H E).A) : PS (XP P w K mg base f cdv A outer s H E) (pieceAt 2) tTurn := by
  refine' PS.imp (t' := tTurn) (ps_for ?qa ?qb ?qc ?qd (pss_one (ps_if ?qt (pss_one ?b0) (pss_one ?b1)))) ?_
  case qa => exact PassesOwn.never
  case qb => exact rfl
  case qc => exact pi_range1 rfl grange (pa_cons (pe_op op_sub (pe_callB call_len_seq (by rfl) glen PySem.boot_len (pa_cons (pv 2) pa_nil)) pe_int) pa_nil)
  case qd => exact pg_name (i := 4) scPiece.nd rfl (Or.inl rfl)
  case qt => exact pt_cmpR op_eq (pe_op op_mod (pe_op op_add (pv 4) (pv 3)) pe_int) pe_int (nomark _)
  case b0 => exact ps_expr (pe_bm PySem.F.plainAttrs_list PySem.F.slot_list_append PySem.F.type_list_append mt_append (pv 0) (pa_cons (pe_call GT hr (by rfl) mT kT bT .nil pass0 (pa_cons (pe_ix ix_list (pv 2) (pv 4) (fun _ _ => rfl)) (pa_cons (pe_ix ix_list (pv 2) (pe_op op_add (pv 4) pe_int) (fun _ _ => rfl)) pa_nil))) pa_nil))
  case b1 => exact ps_expr (pe_bm PySem.F.plainAttrs_list PySem.F.slot_list_append PySem.F.type_list_append mt_append (pv 1) (pa_cons (pe_call GT hr (by rfl) mT kT bT .nil pass0 (pa_cons (pe_ix ix_list (pv 2) (pv 4) (fun _ _ => rfl)) (pa_cons (pe_ix ix_list (pv 2) (pe_op op_add (pv 4) pe_int) (fun _ _ => rfl)) pa_nil))) pa_nil))
  rintro D σ H1 ⟨la, lb, lp, kd, rs, qs, O, T, p, e4, rfl, bo, hp, na, nb, nd, l2, l24, lO, lT, k0, k⟩
  refine ⟨_, rfl, lp, _, rfl, .inl (SqL.of hp), _, _, rfl, rfl, _, rfl, by rw [List.length_map]; omega, by rw [List.length_map]; omega, ?_⟩
  rw [List.length_map]
  refine for_range (lo := 0) (n := ((p.length : Int) - 1).toNat) (fun i σ H2 => ∃ (e4 : Option V) (rs' qs' : List Addr) (A B : List (List Int)), σ = [some (.ref la), some (.ref lb), some (.ref lp), some (.int kd), e4] ∧ (∀ b o, b ≠ la → b ≠ lb → H1 b = some o → H2 b = some o) ∧ Bo H2 la lb rs' qs' (O ++ A) (T ++ B) ∧ Bt.Mat A ∧ Bt.Mat B ∧
      Pts p 0 (i + ((i : Int) + kd).toNat % 2) A ∧ Pts p (if kd % 2 = 0 then 1 else 0) (i + 1 - ((i : Int) + kd).toNat % 2) B ∧ A.length ≤ i ∧ B.length ≤ i)
    ⟨_, rs, qs, [], [], rfl, fun _ _ _ _ h => h, by rw [List.append_nil, List.append_nil]; exact bo, mat_nil, mat_nil, fun x hx => (nomatch hx), fun x hx => (nomatch hx), Nat.le_refl _, Nat.le_refl _⟩ ?_ ?_
  · rintro i σ H2 hi ⟨e4, rs', qs', A, B, rfl, fr, b2, mA, mB, pA, pB, lA, lB⟩
    have hp2 := fr lp _ na nb hp
    obtain ⟨x, ex⟩ : ∃ x, p[i]? = some x := ⟨p[i]'(by omega), by simp⟩
    obtain ⟨y, ey⟩ : ∃ y, p[i + 1]? = some y := ⟨p[i + 1]'(by omega), by simp⟩
    have ga : atI (p.map V.int) (0 + (i : Int)) = some (.int x) := by
      have := atI_get' (xs := p) (z := 0 + (i : Int)) (k := i) (by omega) (by omega)
      rw [this]; simp [ex]
    have gb : atI (p.map V.int) (0 + (i : Int) + 1) = some (.int y) := by
      have := atI_get' (xs := p) (z := 0 + (i : Int) + 1) (k := i + 1) (by omega) (by omega)
      rw [this]; simp [ey]
    have lr := Paired.length b2.hO
    have lq := Paired.length b2.hT
    rw [List.length_append] at lr lq
    unfold gName
    dsimp only [List.set_cons_succ, List.set_cons_zero]
    refine ⟨_, rfl, _, rfl, _, _, rfl, rfl, _, _, rfl, rfl, (by show (0 : Int) < 2; decide), rfl, _, rfl, ?_⟩
    refine ite2 (fun c => ?_) (fun c => ?_)
    · have c : (0 + (i : Int) + kd) % 2 = 0 := by
        have := of_decide_eq_true c
        injection this
      have c0 : ((i : Int) + kd).toNat % 2 = 0 := by omega
      have c1 : (((i + 1 : Nat) : Int) + kd).toNat % 2 = 1 := by omega
      refine ⟨_, rfl, .inl ⟨rfl, _, SqL.of b2.ha⟩, _, rfl, _, rfl, lp, _, _, _, rfl, rfl, SqL.of hp2, ga, _, rfl, _, rfl, _, _, rfl, rfl, lp, _, _, _, rfl, rfl, SqL.of hp2, gb, x, y, rfl, fun q hq => ?_⟩
      have b3 := b2.same (Same.new' (o := .tup ((Bt.tie x y).map V.int)) hq)
      refine ⟨la, _, _, rfl, rfl, b3.ha, small1000 (by rw [List.length_map]; omega), ?_⟩
      obtain ⟨m1, p1⟩ := pts_snoc (i' := 0) (m' := i + 2) nd mA pA ex ey (by omega) (.inr (by omega)) (.inr (by omega)) (by omega) (by omega) (by omega) (by omega) (by omega) (by omega)
      refine ⟨_, rs' ++ [q], qs', A ++ [Bt.tie x y], B, rfl, Bo.fr hq fr, by rw [← List.append_assoc]; exact b2.app hq, m1, mB, p1.more (by omega), pB.more (by omega), by rw [List.length_append]; show _ + 1 ≤ _; omega, by omega⟩
    · have c : ¬ (0 + (i : Int) + kd) % 2 = 0 := fun z => c (by rw [decide_eq_true_iff]; exact congrArg V.int z)
      have c0 : ((i : Int) + kd).toNat % 2 = 1 := by omega
      have c1 : (((i + 1 : Nat) : Int) + kd).toNat % 2 = 0 := by omega
      have ev : kd % 2 = 0 → 1 ≤ i := fun z => by omega
      refine ⟨_, rfl, .inl ⟨rfl, _, SqL.of b2.hb⟩, _, rfl, _, rfl, lp, _, _, _, rfl, rfl, SqL.of hp2, ga, _, rfl, _, rfl, _, _, rfl, rfl, lp, _, _, _, rfl, rfl, SqL.of hp2, gb, x, y, rfl, fun q hq => ?_⟩
      have b3 := b2.same (Same.new' (o := .tup ((Bt.tie x y).map V.int)) hq)
      refine ⟨lb, _, _, rfl, rfl, b3.hb, small1000 (by rw [List.length_map]; omega), ?_⟩
      have ie : (if kd % 2 = 0 then 1 else 0) ≤ i := by
        by_cases z : kd % 2 = 0
        · rw [if_pos z]; exact ev z
        · rw [if_neg z]; exact Nat.zero_le _
      obtain ⟨m1, p1⟩ := pts_snoc (i' := if kd % 2 = 0 then 1 else 0) (m' := i + 2) nd mB pB ex ey (by omega) (.inr (by omega)) (.inr (by omega)) ie (by omega) (Nat.le_refl _) (by omega) (by omega) (by omega)
      refine ⟨_, rs', qs' ++ [q], A, B ++ [Bt.tie x y], rfl, fun b o n1 n2 e => Bo.fr (lb := la) hq (fun b o n1 n2 e => fr b o n2 n1 e) b o n2 n1 e, by rw [← List.append_assoc]; exact (b2.swap.app hq).swap, mA, m1, pA.more (by omega), p1.more (by omega), by omega, by rw [List.length_append]; show _ + 1 ≤ _; omega⟩
  · rintro σ H2 ⟨e4, rs', qs', A, B, rfl, fr, b2, mA, mB, pA, pB, lA, lB⟩
    refine k _ rs' qs' A B H2 fr b2 mA mB (pA.more (by omega)) (fun x hx => ?_) (by omega) (by omega)
    obtain ⟨j, j0, j1, ej⟩ := pB x hx
    refine ⟨j, j0, ?_, ej⟩
    have e : (((((p.length : Int) - 1).toNat : Nat) : Int) + kd).toNat % 2 = ((p.length : Int) - 1 + kd).toNat % 2 := by congr 2; omega
    omega
end
end
end K25

/-! ### k25: piece, two -/
namespace K25
open PySem L2 PyProof.Rows
theorem atI_end {α : Type} {xs : List α} {v : α} (h : 0 < xs.length) (e : xs[xs.length - 1]? = some v) : atI xs (-1) = some v := by
  have h1 : ixN xs.length (-1) = some (xs.length - 1) := by
    unfold ixN
    rw [if_neg (by decide)]
    first
      | (rw [if_pos (by omega)]; congr 1; omega)
      | (split <;> simp_all <;> omega)
  unfold atI
  rw [h1]
  exact e
section
variable {P : Program} {w : World} {K : PySem.W.Frag} {mg : Str → Option Value} {base : Heap}
section
variable {f : Addr} {cdv : Value} {A : Around} {outer : List Env} {s : Shared} {H : Hp} {E : XK}
/-- the ring is closed -/
def tClose : TS := fun D σ H => ∃ (la lb lp : Addr) (kd : Int) (rs qs : List Addr) (O T B : List (List Int)) (p : List Int) (e4 : Option V), σ = [some (.ref la), some (.ref lb), some (.ref lp), some (.int kd), e4] ∧ Bo H la lb rs qs O (T ++ B) ∧ H lp = some (.lst (p.map V.int)) ∧ p.Nodup ∧ 2 ≤ p.length ∧ p.length ≤ 24 ∧ (T ++ B).length ≤ 200 ∧ Bt.Mat B ∧ Pts p (if kd % 2 = 0 then 1 else 0) (p.length - ((p.length : Int) - 1 + kd).toNat % 2) B ∧
  ∀ qs' B' H', (∀ b o, b ≠ la → b ≠ lb → H b = some o → H' b = some o) → Bo H' la lb rs qs' O (T ++ B') → Bt.Mat B' → Pts p 0 p.length B' → D.nx σ H'
theorem ok_close (glen : mg "len" = none) {fT : Addr} {fdT : FuncData} (GT : FnOk P w K mg base CX0 1 fT fdT ["_law_a", "_law_b"] spTie) (mT : mg "_law_tie" = some (.ref fT)) (kT : PySem.W.keepIn K (.ref fT) = true) (bT : Binds K fdT ["_law_a", "_law_b"] [])
    (hr : Room 1 (XP P w K mg base f cdv A outer s H E).A) : PS (XP P w K mg base f cdv A outer s H E) (pieceAt 3) tClose := by
  refine' PS.imp (t' := tClose) (ps_if (pw_and (pt_cmpR op_eq (pv 3) pe_int (nomark _)) (pw_and (pt_cmpR op_eq (pe_op op_mod (pe_callB call_len_seq (by rfl) glen PySem.boot_len (pa_cons (pv 2) pa_nil)) pe_int) pe_int (nomark _)) (pw_and1 (pt_cmpR op_gt (pe_callB call_len_seq (by rfl) glen PySem.boot_len (pa_cons (pv 2) pa_nil)) pe_int (nomark _))))).pt (pss_one ?b0) pss_nil) ?_
  case b0 => exact ps_expr (pe_bm PySem.F.plainAttrs_list PySem.F.slot_list_append PySem.F.type_list_append mt_append (pv 1) (pa_cons (pe_call GT hr (by rfl) mT kT bT .nil pass0 (pa_cons (pe_ix ix_list (pv 2) pe_int (fun _ _ => rfl)) (pa_cons (pe_ix ix_list (pv 2) (pe_un un_neg pe_int) (fun _ _ => rfl)) pa_nil))) pa_nil))
  rintro D σ H1 ⟨la, lb, lp, kd, rs, qs, O, T, B, p, e4, rfl, bo, hp, nd, l2, l24, lT, mB, pB, k⟩
  have pB0 : Pts p 0 p.length B := fun x hx => by
    obtain ⟨j, j0, j1, ej⟩ := pB x hx
    exact ⟨j, Nat.zero_le _, by omega, ej⟩
  have stay := k qs B H1 (fun _ _ _ _ h => h) bo mB pB0
  refine ⟨_, rfl, rfl, _, rfl, ?_⟩
  refine ite2 (fun c => ?_) (fun _ => iteF stay)
  have c : kd = 2 := by
    have := of_decide_eq_true c
    injection this
  subst c
  refine ⟨_, rfl, lp, _, rfl, .inl (SqL.of hp), _, _, rfl, rfl, (by show (0 : Int) < 2; decide), rfl, _, rfl, ?_⟩
  rw [List.length_map]
  refine ite2 (fun c => ?_) (fun _ => iteF stay)
  have c : (p.length : Int) % 2 = 0 := by
    have := of_decide_eq_true c
    injection this
  refine ⟨_, rfl, lp, _, rfl, .inl (SqL.of hp), _, _, rfl, rfl, _, rfl, ?_⟩
  rw [List.length_map]
  refine ite2 (fun c3 => ?_) (fun _ => stay)
  have c3 : (2 : Int) < p.length := of_decide_eq_true c3
  obtain ⟨x, ex⟩ : ∃ x, p[0]? = some x := ⟨p[0]'(by omega), by simp⟩
  obtain ⟨y, ey⟩ : ∃ y, p[p.length - 1]? = some y := ⟨p[p.length - 1]'(by omega), by simp⟩
  have ga : atI (p.map V.int) 0 = some (.int x) := by
    have := atI_get' (xs := p) (z := 0) (k := 0) (by omega) (by omega)
    rw [this]; simp [ex]
  have gb : atI (p.map V.int) (-1) = some (.int y) := by
    exact atI_end (by rw [List.length_map]; omega) (by rw [List.length_map, List.getElem?_map, ey]; rfl)
  have lq := Paired.length bo.hT
  refine ⟨_, rfl, .inl ⟨rfl, _, SqL.of bo.hb⟩, _, rfl, lp, _, _, _, rfl, rfl, SqL.of hp, ga, _, rfl, _, rfl, lp, _, _, _, rfl, rfl, SqL.of hp, gb, x, y, rfl, fun q hq => ?_⟩
  have b3 := bo.same (Same.new' (o := .tup ((Bt.tie x y).map V.int)) hq)
  refine ⟨lb, _, _, rfl, rfl, b3.hb, small1000 (by rw [List.length_map]; omega), ?_⟩
  rw [if_pos (show (2 : Int) % 2 = 0 by decide)] at pB
  obtain ⟨m1, p1⟩ := pts_snoc (i' := 0) (m' := p.length) nd mB pB ex ey (by omega) (.inl (by omega)) (.inr (by omega)) (by omega) (by omega) (by omega) (by omega) (by omega) (by omega)
  exact k (qs ++ [q]) (B ++ [Bt.tie x y]) _ (fun b o n1 n2 e => Bo.fr (lb := la) hq (fun _ _ _ _ h => h) b o n2 n1 e) (by rw [← List.append_assoc]; exact (bo.swap.app hq).swap) m1 p1
end
theorem ok_piece {f fT : Addr} {fd fdT : FuncData} (F : Fun K "_law_piece" "_law_piece" sPiece f fd) (grange : mg "range" = none) (glen : mg "len" = none)
    (GT : FnOk P w K mg base CX0 1 fT fdT ["_law_a", "_law_b"] spTie) (mT : mg "_law_tie" = some (.ref fT)) (kT : PySem.W.keepIn K (.ref fT) = true) (bT : Binds K fdT ["_law_a", "_law_b"] []) : FnOk P w K mg base CX0 2 f fd psP spPiece := by
  refine F.ok scPiece (fun vs H Q E h => ?_) (fun cdv A outer s H vs Q E hr h => ?_)
  · obtain ⟨la, lb, lp, kd, rs, qs, O, T, p, rfl, _⟩ := h
    rfl
  · obtain ⟨la, lb, lp, kd, rs, qs, O, T, p, rfl, bo, hp, na, nb, nd, l24, lO, lT, k0, k4, hQ⟩ := h
    have hr1 : Room 1 (XP P w K mg base f cdv A outer s H E).A := hr
    refine' ⟨_, pss_cons ?s0 (pss_cons ?s1 (pss_cons (ok_turn grange glen GT mT kT bT hr1) (pss_one (ok_close glen GT mT kT bT hr1)))), ?_⟩
    case s0 => exact ps_if (pw_or (pt_cmpR op_eq (pv 3) pe_int (nomark _)) (pw_or1 (pt_cmpR op_lt (pe_callB call_len_seq (by rfl) glen PySem.boot_len (pa_cons (pv 2) pa_nil)) pe_int (nomark _)))).pt (pss_one ps_retN) pss_nil
    case s1 =>
      refine' ps_if (pt_cmpR op_eq (pv 3) pe_int (nomark _)) (pss_cons ?c0 (pss_cons ?c1 (pss_one ps_retN))) pss_nil
      case c0 => exact ps_expr (pe_bm PySem.F.plainAttrs_list PySem.F.slot_list_append PySem.F.type_list_append mt_append (pv 0) (pa_cons (pe_call GT hr1 (by rfl) mT kT bT .nil pass0 (pa_cons (pe_ix ix_list (pv 2) pe_int (fun _ _ => rfl)) (pa_cons (pe_ix ix_list (pv 2) pe_int (fun _ _ => rfl)) pa_nil))) pa_nil))
      case c1 => exact ps_expr (pe_bm PySem.F.plainAttrs_list PySem.F.slot_list_append PySem.F.type_list_append mt_append (pv 1) (pa_cons (pe_call GT hr1 (by rfl) mT kT bT .nil pass0 (pa_cons (pe_ix ix_list (pv 2) pe_int (fun _ _ => rfl)) (pa_cons (pe_ix ix_list (pv 2) pe_int (fun _ _ => rfl)) pa_nil))) pa_nil))
    have none_ := hQ rs qs [] [] H (fun _ _ _ _ h => h) (by rw [List.append_nil, List.append_nil]; exact bo) mat_nil mat_nil (fun x hx => (nomatch hx)) (fun x hx => (nomatch hx))
    refine ⟨_, rfl, rfl, _, rfl, ?_⟩
    refine ite2 (fun _ => iteT none_) (fun _ => ?_)
    refine ⟨_, rfl, lp, _, rfl, .inl (SqL.of hp), _, _, rfl, rfl, _, rfl, ?_⟩
    rw [List.length_map]
    refine ite2 (fun _ => none_) (fun c => ?_)
    have l2 : 2 ≤ p.length := by
      have : ¬ (p.length : Int) < 2 := fun z => c (decide_eq_true z)
      omega
    refine ⟨_, rfl, rfl, _, rfl, ?_⟩
    have lr := Paired.length bo.hO
    have lq := Paired.length bo.hT
    refine ite2 (fun _ => ?_) (fun _ => ?_)
    · obtain ⟨x, ex⟩ : ∃ x, p[0]? = some x := ⟨p[0]'(by omega), by simp⟩
      obtain ⟨y, ey⟩ : ∃ y, p[1]? = some y := ⟨p[1]'(by omega), by simp⟩
      have ga : atI (p.map V.int) 0 = some (.int x) := by
        have := atI_get' (xs := p) (z := 0) (k := 0) (by omega) (by omega)
        rw [this]; simp [ex]
      have gb : atI (p.map V.int) 1 = some (.int y) := by
        have := atI_get' (xs := p) (z := 1) (k := 1) (by omega) (by omega)
        rw [this]; simp [ey]
      obtain ⟨m1, p1⟩ := pts_snoc (A := []) (i := 0) (m := 0) (i' := 0) (m' := p.length) nd mat_nil (fun x hx => (nomatch hx)) ex ey (by omega) (.inr (by omega)) (.inr (by omega)) (by omega) (by omega) (by omega) (by omega) (by omega) (by omega)
      refine ⟨_, rfl, .inl ⟨rfl, _, SqL.of bo.ha⟩, _, rfl, lp, _, _, _, rfl, rfl, SqL.of hp, ga, _, rfl, lp, _, _, _, rfl, rfl, SqL.of hp, gb, x, y, rfl, fun q hq => ?_⟩
      have b3 := bo.same (Same.new' (o := .tup ((Bt.tie x y).map V.int)) hq)
      refine ⟨la, _, _, rfl, rfl, b3.ha, small1000 (by rw [List.length_map]; omega), ?_⟩
      have b4 := bo.app (x := x) (y := y) hq
      have fr4 := Bo.fr (la := la) (lb := lb) (H0 := H) (o1 := .tup ((Bt.tie x y).map V.int)) (o2 := .lst (rs.map V.ref ++ [.ref q])) hq fun _ _ _ _ h => h
      generalize upd (upd H q (.tup ((Bt.tie x y).map V.int))) la (.lst (rs.map V.ref ++ [.ref q])) = H4 at b4 fr4 ⊢
      have hp4 := fr4 lp _ na nb hp
      refine ⟨_, rfl, .inl ⟨rfl, _, SqL.of b4.hb⟩, _, rfl, lp, _, _, _, rfl, rfl, SqL.of hp4, ga, _, rfl, lp, _, _, _, rfl, rfl, SqL.of hp4, gb, x, y, rfl, fun q2 hq2 => ?_⟩
      have b5 := b4.same (Same.new' (o := .tup ((Bt.tie x y).map V.int)) hq2)
      refine ⟨lb, _, _, rfl, rfl, b5.hb, small1000 (by rw [List.length_map]; omega), ?_⟩
      exact hQ _ _ [Bt.tie x y] [Bt.tie x y] _ (fun b o n1 n2 e => Bo.fr (lb := la) hq2 (fun b o n1 n2 e => fr4 b o n2 n1 e) b o n2 n1 e) ((b4.swap.app hq2).swap) m1 m1 p1 p1
    · refine ⟨la, lb, lp, kd, rs, qs, O, T, p, _, rfl, bo, hp, na, nb, nd, l2, l24, lO, lT, k0, fun e4 rs' qs' A B H2 fr b2 mA mB pA pB lA lB => ?_⟩
      refine ⟨la, lb, lp, kd, rs', qs', O ++ A, T, B, p, e4, rfl, b2, fr lp _ na nb hp, nd, l2, l24, by rw [List.length_append]; omega, mB, pB, fun qs2 B' H3 fr3 b3 mB' pB' => ?_⟩
      exact hQ rs' qs2 A B' H3 (fun b o n1 n2 e => fr3 b o n1 n2 (fr b o n1 n2 e)) b3 mA mB' pA pB'
/-! two -/
theorem mat_len {O : List (List Int)} (h : Bt.Mat O) : O.flatten.length = 2 * O.length := by
  have h1 := h.1
  clear h
  induction O with
  | nil => rfl
  | cons t O ih =>
    rw [List.flatten_cons, List.length_append, ih fun u hu => h1 u (.tail _ hu)]
    obtain ⟨a, b, rfl, _⟩ := h1 t (.head _)
    show 2 + 2 * O.length = 2 * (O.length + 1)
    omega
theorem mat_app {O A : List (List Int)} (hO : Bt.Mat O) (hA : Bt.Mat A) (d : ∀ x ∈ O.flatten, x ∉ A.flatten) : Bt.Mat (O ++ A) := by
  refine ⟨fun t ht => ?_, ?_⟩
  · rcases List.mem_append.mp ht with w | w
    · exact hO.1 t w
    · exact hA.1 t w
  · rw [List.flatten_append, List.nodup_append]
    exact ⟨hO.2, hA.2, fun a ha b hb w => d a ha (w ▸ hb)⟩
def spTwo (K : PySem.W.Frag) : Sp := fun vs H Q _ => ∃ (a l : Addr) (ns o : List Int), vs = [.ref a, .ref l] ∧ SqL K H a (ns.map V.int) ∧ H l = some (.lst (o.map V.int)) ∧ o.Nodup ∧ o.length ≤ 24 ∧
  ∀ p l1 l2 rs qs O T H', Same H H' → H' p = some (.tup [.ref l1, .ref l2]) → H' l1 = some (.lst (rs.map V.ref)) → H' l2 = some (.lst (qs.map V.ref)) → TupsH H' rs O → TupsH H' qs T → Bt.Mat O → Bt.Mat T → O.length ≤ 12 → T.length ≤ 12 → Q (.ref p) H'
abbrev nmT : List Str := ["_law_script", "_law_order_here", "_law_one", "_law_other", "_law_at", "_law_k", "_law_number", "_law_size"]
theorem scTwo : FnScope nmT ["_law_script", "_law_order_here"] (defScope sTwo) := ⟨rfl, rfl, rfl, by decide +kernel, rfl, by decide +kernel, by decide +kernel⟩
abbrev XT (P : Program) (w : World) (K : PySem.W.Frag) (mg : Str → Option Value) (base : Heap) (f : Addr) (cdv : Value) (A : Around) (outer : List Env) (s : Shared) (H : Hp) (E : XK) : Cx := (cxOf CX0 P w K mg base nmT "_law_two" (defScope sTwo) f cdv A outer s H E).nox
theorem ok_two {f fC fP : Addr} {fd fdC fdP : FuncData} (F : Fun K "_law_two" "_law_two" sTwo f fd) (glen : mg "len" = none) (gsrt : mg "sorted" = none)
    (GC : FnOk P w K mg base CX0 1 fC fdC ["_law_script", "_law_k"] (spCell K)) (mC : mg "_law_cell_at" = some (.ref fC)) (kC : PySem.W.keepIn K (.ref fC) = true) (bC : Binds K fdC ["_law_script", "_law_k"] [])
    (GP : FnOk P w K mg base CX0 2 fP fdP psP spPiece) (mP : mg "_law_piece" = some (.ref fP)) (kP : PySem.W.keepIn K (.ref fP) = true) (bP : Binds K fdP psP []) : FnOk P w K mg base CX0 3 f fd ["_law_script", "_law_order_here"] (spTwo K) := by
  refine F.ok scTwo (fun vs H Q E h => ?_) (fun cdv A outer s H vs Q E hr h => ?_)
  · obtain ⟨a, l, ns, o, rfl, _⟩ := h
    rfl
  · obtain ⟨a, l, ns, o, rfl, hS, hl, nd, l24, hQ⟩ := h
    have hr1 : Room 1 (XT P w K mg base f cdv A outer s H E).A := hr.mono (by decide)
    have hr2 : Room 2 (XT P w K mg base f cdv A outer s H E).A := hr
    refine' ⟨_, pss_cons ?s0 (pss_cons ?s1 (pss_cons ?s2 (pss_cons ?s3 (pss_cons (ps_while ?wa ?wc (pss_cons ?b0 (pss_cons ?b1 (pss_cons ?b2 (pss_cons ?b3 (pss_one ?b4)))))) (pss_one ?s5))))), ?_⟩
    case s0 => exact ps_set (i := 2) scTwo.nd rfl (Or.inl rfl) (pe_lst pa_nil)
    case s1 => exact ps_set (i := 3) scTwo.nd rfl (Or.inl rfl) (pe_lst pa_nil)
    case s2 => exact ps_set (i := 4) scTwo.nd rfl (Or.inl rfl) pe_int
    case s3 => exact ps_set (i := 5) scTwo.nd rfl (Or.inl rfl) pe_int
    case wa => exact PassesOwn.never
    case wc => exact pt_cmpR op_lt (pv 4) (pe_callB call_len_seq (by rfl) glen PySem.boot_len (pa_cons (pv 1) pa_nil)) (nomark _)
    case b0 => exact ps_set (i := 6) scTwo.nd rfl (Or.inl rfl) (pe_op op_mod (pe_op op_mul (pe_op op_add (pe_call GC hr1 (by rfl) mC kC bC .nil pass0 (pa_cons (pv 0) (pa_cons (pv 5) pa_nil))) (pe_op op_mul pe_int (pv 5))) pe_int) pe_int)
    case b1 => exact ps_set (i := 7) scTwo.nd rfl (Or.inl rfl) (pe_op op_add pe_int (pe_op op_mod (pe_op op_fdiv (pv 6) pe_int) (pe_ix ix_list (pe_lst (pa_cons pe_int (pa_cons pe_int pa_nil))) (pe_op op_mod (pe_op op_fdiv (pv 6) pe_int) pe_int) (fun _ _ => rfl))))
    case b2 => exact ps_expr (pe_call GP hr2 (by rfl) mP kP bP .nil pass0 (pa_cons (pv 2) (pa_cons (pv 3) (pa_cons (pe_slice sl_list (pv 1) (po_some (pv 4)) (po_some (pe_op op_add (pv 4) (pv 7)))) (pa_cons (pe_op op_mod (pv 6) pe_int) pa_nil)))))
    case b3 => exact ps_set (i := 4) scTwo.nd rfl (Or.inl rfl) (pe_op op_add (pv 4) (pv 7))
    case b4 => exact ps_set (i := 5) scTwo.nd rfl (Or.inl rfl) (pe_op op_add (pv 5) pe_int)
    case s5 => exact ps_ret (pe_tup (pa_cons (pe_callB call_sortedL (by rfl) gsrt boot_sorted (pa_cons (pv 2) pa_nil)) (pa_cons (pe_callB call_sortedL (by rfl) gsrt boot_sorted (pa_cons (pv 3) pa_nil)) pa_nil)))
    refine ⟨Nat.zero_le _, fun la n1 => ⟨Nat.zero_le _, fun lb n2 => ?_⟩⟩
    have s1 : Same H (upd H la (.lst [])) := Same.new' n1
    have s2 := s1.trans (Same.new' (o := .lst []) n2)
    have nab : la ≠ lb := ne_of_none (o := .lst []) upd_same n2
    have nb0 : H lb = none := s1.free n2
    have bo0 : Bo (upd (upd H la (.lst [])) lb (.lst [])) la lb [] [] [] [] := ⟨by rw [upd_ne nab]; exact upd_same, upd_same, .nil, .nil, nab⟩
    generalize upd (upd H la (.lst [])) lb (.lst []) = H1 at s2 bo0 ⊢
    dsimp only [gName, List.set_cons_succ, List.set_cons_zero]
    refine ⟨fun m σ H2 => ∃ (at_ : Nat) (k : Int) (rs qs : List Addr) (O T : List (List Int)) (e6 e7 : Option V), σ = [some (.ref a), some (.ref l), some (.ref la), some (.ref lb), some (.int at_), some (.int k), e6, e7] ∧ Same H H2 ∧ Bo H2 la lb rs qs O T ∧ Bt.Mat O ∧ Bt.Mat T ∧ (∀ x ∈ O.flatten, x ∈ o.take at_) ∧ (∀ x ∈ T.flatten, x ∈ o.take at_) ∧ 0 ≤ k ∧ m = o.length - at_,
      ⟨_, 0, 25, [], [], [], [], _, _, rfl, s2, bo0, mat_nil, mat_nil, fun x hx => (nomatch hx), fun x hx => (nomatch hx), by decide, rfl⟩, ?_⟩
    rintro m σ H2 ⟨at_, k, rs, qs, O, T, e6, e7, rfl, s2, bo, mO, mT, iO, iT, k0, rfl⟩
    have bnd : ∀ {Z : List (List Int)}, Bt.Mat Z → (∀ x ∈ Z.flatten, x ∈ o.take at_) → Z.length ≤ 12 := fun {Z} hZ iZ => by
      have h1 := hZ.2.length_le_of_subset iZ
      rw [mat_len hZ, List.length_take] at h1
      omega
    have lO := bnd mO iO
    have lT := bnd mT iT
    refine ⟨_, rfl, _, rfl, l, _, rfl, .inl (SqL.of (s2 l _ hl)), _, _, rfl, rfl, _, rfl, ?_⟩
    rw [List.length_map]
    refine ite2 (fun c => ?_) (fun _ => ?_)
    · have c : (at_ : Int) < o.length := of_decide_eq_true c
      refine ⟨fun σ H3 => ∃ (sz : Nat) (k : Int) (rs qs : List Addr) (O T : List (List Int)) (e6 e7 : Option V), 1 ≤ sz ∧ σ = [some (.ref a), some (.ref l), some (.ref la), some (.ref lb), some (.int ((at_ : Int) + sz)), some (.int k), e6, e7] ∧ Same H H3 ∧ Bo H3 la lb rs qs O T ∧ Bt.Mat O ∧ Bt.Mat T ∧ (∀ x ∈ O.flatten, x ∈ o.take (at_ + sz)) ∧ (∀ x ∈ T.flatten, x ∈ o.take (at_ + sz)) ∧ 0 ≤ k,
        fun σ' H' ⟨sz, k, rs, qs, O, T, e6, e7, h1, e, q1, q2, q3, q4, q5, q6, q7⟩ => ⟨_, by omega, at_ + sz, k, rs, qs, O, T, e6, e7, e, q1, q2, q3, q4, q5, q6, q7, rfl⟩, ?_⟩
      refine ⟨_, rfl, _, rfl, a, ns, k, rfl, k0, s2.seq hS, fun n => ⟨_, rfl, _, _, rfl, rfl, .inl ⟨by decide, by decide⟩, _, _, rfl, rfl, _, _, rfl, rfl, .inr ⟨by decide, by decide⟩, _, _, rfl, rfl, (by show (0 : Int) < 2147483629; decide), ?_⟩⟩
      dsimp only [gName, List.set_cons_succ, List.set_cons_zero]
      have nu0 := Int.emod_nonneg ((n + 5 * k) * 69621) (show (2147483629 : Int) ≠ 0 by decide)
      generalize (n + 5 * k) * 69621 % 2147483629 = nu at nu0 ⊢
      refine ⟨_, rfl, _, _, rfl, rfl, ⟨by decide, by decide⟩, (by show 2 ≤ sizeLine; decide), fun l5 h5 => ?_⟩
      have s3 : Same H2 (upd H2 l5 (.lst [.int 5, .int 24])) := Same.new' h5
      have g5 : upd H2 l5 (.lst [.int 5, .int 24]) l5 = some (.lst [.int 5, .int 24]) := upd_same
      generalize upd H2 l5 (.lst [.int 5, .int 24]) = H3 at s3 g5 ⊢
      obtain ⟨md, gm, hm⟩ : ∃ md : Int, atI [V.int 5, V.int 24] (nu / 120 % 2) = some (.int md) ∧ 0 < md := by
        have b0 := Int.emod_nonneg (nu / 120) (show (2 : Int) ≠ 0 by decide)
        have b1 := Int.emod_lt_of_pos (nu / 120) (show (0 : Int) < 2 by decide)
        have : nu / 120 % 2 = 0 ∨ nu / 120 % 2 = 1 := by omega
        rcases this with z | z
        · rw [z]; exact ⟨5, rfl, by decide⟩
        · rw [z]; exact ⟨24, rfl, by decide⟩
      refine ⟨_, rfl, _, _, rfl, rfl, ⟨by decide, by decide⟩, _, _, rfl, rfl, (by show (0 : Int) < 2; decide), l5, _, _, _, rfl, rfl, SqL.of g5, gm, _, _, rfl, rfl, hm, _, _, rfl, rfl, ?_⟩
      dsimp only [gName, List.set_cons_succ, List.set_cons_zero]
      have sz0 := Int.emod_nonneg (nu / 5) (show md ≠ 0 by omega)
      obtain ⟨sz, es, h1⟩ : ∃ sz : Nat, 1 + nu / 5 % md = (sz : Int) ∧ 1 ≤ sz := ⟨(1 + nu / 5 % md).toNat, by omega, by omega⟩
      rw [es]
      refine ⟨_, rfl, _, rfl, _, rfl, _, rfl, _, rfl, _, rfl, _, rfl, _, _, rfl, rfl, _, rfl, l, _, rfl, SqL.of ((s2.trans s3) l _ hl), fun lp hlp => ?_⟩
      have ep : cutA o (some (at_ : Int)) (some ((at_ : Int) + sz)) = (o.drop at_).take sz := by
        unfold cutA
        rw [show (some ((at_ : Int) + sz) : Option Int) = some (((at_ + sz : Nat)) : Int) by congr 1, HT.sIx_nat, HT.sIx_nat, Nat.min_eq_left (show at_ ≤ o.length by omega)]
        rcases Nat.lt_or_ge (at_ + sz) o.length with w | w
        · rw [Nat.min_eq_left (show at_ + sz ≤ o.length by omega)]; congr 1; omega
        · rw [Nat.min_eq_right w, List.take_of_length_le (by rw [List.length_drop]; exact Nat.le_refl _), List.take_of_length_le (by rw [List.length_drop]; omega)]
      rw [cut_map, ep]
      have bo3 := bo.same s3
      have s4 : Same H3 (upd H3 lp (.lst (((o.drop at_).take sz).map V.int))) := Same.new' hlp
      have g4 : upd H3 lp (.lst (((o.drop at_).take sz).map V.int)) lp = some (.lst (((o.drop at_).take sz).map V.int)) := upd_same
      have na : lp ≠ la := fun z => by rw [z, bo3.ha] at hlp; cases hlp
      have nb : lp ≠ lb := fun z => by rw [z, bo3.hb] at hlp; cases hlp
      generalize upd H3 lp (.lst (((o.drop at_).take sz).map V.int)) = H4 at s4 g4 ⊢
      have pnd : ((o.drop at_).take sz).Nodup := (nd.sublist (List.drop_sublist _ _)).sublist (List.take_sublist _ _)
      have pl : ((o.drop at_).take sz).length ≤ 24 := by rw [List.length_take, List.length_drop]; omega
      have kd0 := Int.emod_nonneg nu (show (5 : Int) ≠ 0 by decide)
      have kd1 := Int.emod_lt_of_pos nu (show (0 : Int) < 5 by decide)
      refine ⟨_, rfl, _, _, rfl, rfl, (by show (0 : Int) < 5; decide), la, lb, lp, _, rs, qs, O, T, _, rfl, bo3.same s4, g4, na, nb, pnd, pl, by omega, by omega, kd0, by omega, fun rs' qs' A B H5 fr b5 mA mB pA pB => ?_⟩
      have s05 : Same H H5 := fun b o' e => by
        refine fr b o' (ne_of_none e n1) (ne_of_none e nb0) (s4 b o' (s3 b o' (s2 b o' e)))
      have inp : ∀ {Z : List (List Int)}, Pts ((o.drop at_).take sz) 0 ((o.drop at_).take sz).length Z → ∀ x ∈ Z.flatten, x ∈ (o.drop at_).take sz := fun h x hx => by
        obtain ⟨j, _, _, ej⟩ := h x hx
        exact List.mem_of_getElem? ej
      have apart : ∀ x ∈ o.take at_, x ∉ (o.drop at_).take sz := fun x hx hy => by
        have hn := nd
        rw [← List.take_append_drop at_ o, List.nodup_append] at hn
        exact hn.2.2 x hx x (List.mem_of_mem_take hy) rfl
      have sub1 : ∀ x ∈ o.take at_, x ∈ o.take (at_ + sz) := fun x hx => by
        rw [List.take_add]; exact List.mem_append_left _ hx
      have sub2 : ∀ x ∈ (o.drop at_).take sz, x ∈ o.take (at_ + sz) := fun x hx => by
        rw [List.take_add]; exact List.mem_append_right _ hx
      have un : ∀ {Y Z : List (List Int)}, (∀ x ∈ Y.flatten, x ∈ o.take at_) → Pts ((o.drop at_).take sz) 0 ((o.drop at_).take sz).length Z → ∀ x ∈ (Y ++ Z).flatten, x ∈ o.take (at_ + sz) := fun hY hZ x hx => by
        rw [List.flatten_append] at hx
        rcases List.mem_append.mp hx with w | w
        · exact sub1 x (hY x w)
        · exact sub2 x (inp hZ x w)
      refine ⟨_, rfl, _, rfl, _, _, rfl, rfl, ?_⟩
      dsimp only [gName, List.set_cons_succ, List.set_cons_zero]
      refine ⟨_, rfl, _, _, rfl, rfl, ?_⟩
      exact ⟨sz, k + 1, rs', qs', O ++ A, T ++ B, _, _, h1, rfl, s05, b5, mat_app mO mA (fun x hx hy => apart x (iO x hx) (inp pA x hy)), mat_app mT mB (fun x hx hy => apart x (iT x hx) (inp pB x hy)), un iO pA, un iT pB, by omega⟩
    · have lr := Paired.length bo.hO
      have lq := Paired.length bo.hT
      refine ⟨_, rfl, la, rs, O, rfl, SqL.of bo.ha, by omega, bo.hO, fun rs' O' l1 S1 h1 => ?_⟩
      obtain ⟨t1, p1, e1⟩ := bo.hO.sorted S1
      have s3 : Same H2 (upd H2 l1 (.lst (rs'.map V.ref))) := Same.new' h1
      have g1 : upd H2 l1 (.lst (rs'.map V.ref)) l1 = some (.lst (rs'.map V.ref)) := upd_same
      generalize upd H2 l1 (.lst (rs'.map V.ref)) = H3 at s3 g1 ⊢
      have b3 := bo.same s3
      refine ⟨_, rfl, lb, qs, T, rfl, SqL.of b3.hb, by omega, b3.hT, fun qs' T' l2 S2 h2 => ?_⟩
      obtain ⟨t2, p2, e2⟩ := b3.hT.sorted S2
      have s4 : Same H3 (upd H3 l2 (.lst (qs'.map V.ref))) := Same.new' h2
      have g2 : upd H3 l2 (.lst (qs'.map V.ref)) l2 = some (.lst (qs'.map V.ref)) := upd_same
      generalize upd H3 l2 (.lst (qs'.map V.ref)) = H4 at s4 g2 ⊢
      refine ⟨(by show 2 ≤ sizeLine; decide), fun p hp => ?_⟩
      have s5 := Same.new' (o := .tup [.ref l1, .ref l2]) hp
      exact hQ p l1 l2 rs' qs' O' T' _ (s2.trans (s3.trans (s4.trans s5))) upd_same ((s4.trans s5) _ _ g1) (s5 _ _ g2) (TupsH.sm t1 (s3.trans (s4.trans s5))) (TupsH.sm t2 (s4.trans s5)) (mO.perm p1) (mT.perm p2) (by rw [p1.length_eq]; exact lO) (by rw [p2.length_eq]; exact lT)
end
end K25

/-! ### k25: along -/
namespace Bt
theorem alo_get : ∀ {l : List Int} {i : Nat}, i + 1 < l.length → (alo l)[i]? = some (tie (l.getD i 0) (l.getD (i + 1) 0))
  | [], i, h => by simp at h
  | [_], i, h => by simp at h
  | a :: b :: r, 0, _ => rfl
  | a :: b :: r, i + 1, h => by
    have h' : i + 1 < (b :: r).length := by simp only [List.length_cons] at h ⊢; omega
    have := alo_get (l := b :: r) (i := i) h'
    show (alo (b :: r))[i]? = _
    rw [this]
    rfl
end Bt
namespace K25
open PySem L2 PyProof.Rows
section
variable {P : Program} {w : World} {K : PySem.W.Frag} {mg : Str → Option Value} {base : Heap}
def spAlong : Sp := fun vs H Q _ => ∃ (f : Addr) (H0 : Hp) (k : Bool × List Int), vs = [.ref f] ∧ FH H0 H f k ∧ (if k.1 = true then 2 ≤ k.2.length else 4 ≤ k.2.length) ∧ k.2.length ≤ 200 ∧
  ∀ l zs H', Same H H' → H' l = some (.lst (zs.map V.ref)) → TupsH H' zs (Bt.alg k) → Q (.ref l) H'
abbrev nmA : List Str := ["_law_told", "_law_points", "_law_ties"]
theorem scAlong : FnScope nmA ["_law_told"] (defScope sAlong) := ⟨rfl, rfl, rfl, by decide +kernel, rfl, by decide +kernel, by decide +kernel⟩
abbrev XA (P : Program) (w : World) (K : PySem.W.Frag) (mg : Str → Option Value) (base : Heap) (f : Addr) (cdv : Value) (A : Around) (outer : List Env) (s : Shared) (H : Hp) (E : XK) : Cx := (cxOf CX0 P w K mg base nmA "_law_along" (defScope sAlong) f cdv A outer s H E).nox
def compA : Scope := { kind := .function, names := [(Str.ofString ".0", .local), (Str.ofString "_law_k", .local), (Str.ofString "_law_tie", .globalImplicit), (Str.ofString "_law_points", .free)], isGenerator := false, isCoroutine := false, more := [] }
theorem nd_compA : ([".0", "_law_k", "_law_points"] : List Str).Nodup := by decide +kernel
theorem capsA {f : Addr} {cdv : Value} {A : Around} {outer : List Env} {s : Shared} {H : Hp} {E : XK} : Caps (XA P w K mg base f cdv A outer s H E) compA [(Str.ofString "_law_points", s.heap.objs.size + 1)] [".0", "_law_k"] ["_law_points"] [1] := by
  have e1 : (XA P w K mg base f cdv A outer s H E).env.cells = [(Str.ofString "_law_points", s.heap.objs.size + 1)] := by rfl
  have e2 : (relabel compA (XA P w K mg base f cdv A outer s H E).env).names = [(Str.ofString ".0", .local), (Str.ofString "_law_k", .local), (Str.ofString "_law_tie", .globalImplicit), (Str.ofString "_law_points", .cell)] := by rfl
  refine ⟨rfl, fun x c h => ?_, rfl, by decide +kernel, by decide +kernel, fun x hx => ?_, rfl, fun i x e => ?_⟩
  · have hx : (x = Str.ofString "_law_points" ∧ c = s.heap.objs.size + 1) := by
      have := PySem.mem_of_lookup h
      simpa using this
    obtain ⟨rfl, rfl⟩ := hx
    rw [e1]; rfl
  · rw [e2] at hx
    have hx : x = Str.ofString "_law_points" := by
      rcases hx with hx | hx
      all_goals
        have := PySem.mem_of_lookup hx
        simpa using this
    subst hx
    exact ⟨_, rfl⟩
  · match i, e with
    | 0, e =>
      cases (Option.some.inj e)
      exact ⟨1, rfl, rfl, rfl, rfl, by rw [e2]; rfl⟩
    | n + 1, e => cases e

theorem nd_ownA : ([".0", "_law_a"] : List Str).Nodup := by decide +kernel
theorem wrd_in (r : Bool) : inV (.str (wrd r)) [.str "row", .str "ring"] = true := by cases r <;> decide +kernel
theorem wrd_ring (r : Bool) : decide (V.str (wrd r) = V.str "ring") = !r := by cases r <;> decide +kernel
abbrev alongAt (i : Nat) : Stmt := (defBody sAlong).getD i (.Pass ⟨0, 0, 0, 0⟩)
section
variable {f : Addr} {cdv : Value} {A : Around} {outer : List Env} {s : Shared} {H : Hp} {E : XK}
/-- ties = [...] -/
def tTs : TS := fun D σ H => ∃ (m : Addr) (t : List Int), σ[1]? = some (some (.ref m)) ∧ H m = some (.lst (t.map V.int)) ∧ 2 ≤ t.length ∧ t.length ≤ 200 ∧
  ∀ l zs H', H l = none → Same H H' → H' l = some (.lst (zs.map V.ref)) → TupsH H' zs (Bt.alo t) → D.nx (σ.set 2 (some (.ref l))) H'
theorem ok_ts (grange : mg "range" = none) (glen : mg "len" = none) {fT : Addr} {fdT : FuncData} (GT : FnOk P w K mg base CX0 1 fT fdT ["_law_a", "_law_b"] spTie) (mT : mg "_law_tie" = some (.ref fT)) (kT : PySem.W.keepIn K (.ref fT) = true) (bT : Binds K fdT ["_law_a", "_law_b"] [])
    (hr : Room 1 (XA P w K mg base f cdv A outer s H E).A) : PS (XA P w K mg base f cdv A outer s H E) (alongAt 3) tTs := by
  refine' PS.imp (t' := tTs) (ps_comp (i := 2) (g := gName 1) (own := [".0", "_law_k"]) (caps := ["_law_points"]) (js := [1]) rfl capsA (pi_range1 rfl grange (pa_cons (pe_op op_sub (pe_callB call_len_seq (by rfl) glen PySem.boot_len (pa_cons (pv 1) pa_nil)) pe_int) pa_nil)) (fun pins C s H1 fp => pg_name (i := 1) nd_compA rfl (Or.inl rfl) (Or.inr rfl)) (fun pins C s H1 fp => pts_nil) (fun pins C s H1 fp => pe_call GT hr rfl mT kT bT .nil pass0 (pa_cons (pe_ix (ix_listK K rfl) (pv 2) (pv 1) (fun _ _ => rfl)) (pa_cons (pe_ix (ix_listK K rfl) (pv 2) (pe_op op_add (pv 1) pe_int) (fun _ _ => rfl)) pa_nil))) scAlong.nd rfl rfl rfl) ?_
  rintro D σ H1 ⟨m, t, e1, hm, l2, l200, k⟩
  have la := Bt.alo_len t
  refine ⟨_, e1, m, _, rfl, .inl (SqL.of hm), _, _, rfl, rfl, _, rfl, by rw [List.length_map]; omega, by rw [List.length_map]; omega, fun D2 hD => ?_⟩
  have eC : σC ([".0", "_law_k"] : List Str).length [1] σ = [none, none, some (.ref m)] := by
    show [none, none, (σ[1]?).getD none] = _
    rw [e1]
    rfl
  rw [eC, List.length_map]
  have en : ((t.length : Int) - 1).toNat = (Bt.alo t).length := by omega
  refine turns_range (lo := 0) (n := ((t.length : Int) - 1).toNat) (fun i ys σ H5 => ∃ (zs : List Addr) (e0 e1 : Option V), ys = zs.map V.ref ∧ i ≤ t.length - 1 ∧ σ = [e0, e1, some (.ref m)] ∧ Same H1 H5 ∧ H5 D2 = some (.lst ys) ∧ TupsH H5 zs ((Bt.alo t).take i)) ⟨[], none, none, rfl, Nat.zero_le _, rfl, Same.new' hD, upd_same, .nil⟩ ?_ ?_ ?_
  · rintro i ys σ H5 ⟨zs, e0, e1, rfl, li, rfl, s5, h5, hz⟩
    refine ⟨h5, small1000 ?_⟩
    have := Paired.length hz
    rw [List.length_take] at this
    rw [List.length_map]
    omega
  · rintro i ys σ H5 hi ⟨zs, e0, e1, rfl, li, rfl, s5, h5, hz⟩
    have ga : atI (t.map V.int) (0 + (i : Int)) = some (.int (t.getD i 0)) := atI_get' (k := i) (by omega) (by omega)
    have gb : atI (t.map V.int) (0 + (i : Int) + 1) = some (.int (t.getD (i + 1) 0)) := atI_get' (k := i + 1) (by omega) (by omega)
    have eg := Bt.alo_get (l := t) (i := i) (by omega)
    unfold gName
    dsimp only
    refine yes_of ?_
    refine ⟨_, rfl, _, rfl, m, _, _, _, rfl, rfl, SqL.of (s5 m _ hm), ga, _, rfl, _, rfl, _, _, rfl, rfl, m, _, _, _, rfl, rfl, SqL.of (s5 m _ hm), gb, _, _, rfl, fun q hq => ?_⟩
    generalize t.getD i 0 = x at eg ⊢
    generalize t.getD (i + 1) 0 = y at eg ⊢
    have s6 : Same H5 (upd H5 q (.tup ((Bt.tie x y).map V.int))) := Same.new' hq
    have hq6 : upd H5 q (.tup ((Bt.tie x y).map V.int)) q = some (.tup ((Bt.tie x y).map V.int)) := upd_same
    generalize upd H5 q (.tup ((Bt.tie x y).map V.int)) = H6 at s6 hq6 ⊢
    have h6 := s6 D2 _ h5
    refine ⟨h6, Nxt.mk hi ⟨zs ++ [q], _, _, by rw [List.map_append]; rfl, by omega, rfl, fun b o e => ?_, upd_same, ?_⟩⟩
    · rw [upd_ne (ne_of_none e hD)]; exact s6 b o (s5 b o e)
    · rw [List.take_succ, eg]
      refine TupsH.tu (paired_snoc (TupsH.sm hz s6) ⟨hq6, by unfold Bt.tie; simp⟩) fun b xs e => ?_
      rw [upd_ne (fun z => by subst z; rw [h6] at e; cases e)]; exact e
  · rintro ys σ0 H5 ⟨zs, e0, e1, rfl, li, rfl, s5, h5, hz⟩
    rw [en, List.take_length] at hz
    exact k D2 zs H5 hD s5 h5 hz
end
theorem ok_along {f fT fW : Addr} {fd fdT fdW : FuncData} (F : Fun K "_law_along" "_law_along" sAlong f fd) (k : Kit K mg) (grange : mg "range" = none) (glen : mg "len" = none) (gall : mg "all" = none)
    (GT : FnOk P w K mg base CX0 1 fT fdT ["_law_a", "_law_b"] spTie) (mT : mg "_law_tie" = some (.ref fT)) (kT : PySem.W.keepIn K (.ref fT) = true) (bT : Binds K fdT ["_law_a", "_law_b"] [])
    (GW : FnOk P w K mg base CX0 1 fW fdW ["_law_found"] spWhole) (mW : mg "_law_whole" = some (.ref fW)) (kW : PySem.W.keepIn K (.ref fW) = true) (bW : Binds K fdW ["_law_found"] []) : FnOk P w K mg base CX0 2 f fd ["_law_told"] spAlong := by
  refine F.ok scAlong (fun vs H Q E h => ?_) (fun cdv A outer s H vs Q E hr h => ?_)
  · obtain ⟨g, H0, j, rfl, _⟩ := h
    rfl
  · obtain ⟨g, H0, ⟨r, t⟩, rfl, ⟨m, hg, hm, _⟩, hlen, l200, hQ⟩ := h
    have hg : H g = some (.tup [.str (wrd r), .ref m]) := hg
    have hm : H m = some (.lst (t.map V.int)) := hm
    have l200 : t.length ≤ 200 := l200
    have l2 : 2 ≤ t.length := by
      have hlen : (if r = true then 2 ≤ t.length else 4 ≤ t.length) := hlen
      split at hlen <;> omega
    have hr1 : Room 1 (XA P w K mg base f cdv A outer s H E).A := hr
    refine' ⟨_, pss_cons ?s0 (pss_cons ?s1 (pss_cons ?s2 (pss_cons (ok_ts grange glen GT mT kT bT hr1) (pss_cons ?s4 (pss_one (ps_ret (pv 2))))))), ?_⟩
    case s0 => exact ps_if (pw_or (pt_not (pt_val (pe_callB call_isV (by rfl) k.gis boot_isinstance (pa_cons (pv 0) (pa_cons (pe_bltn (v := .ty "tuple") (by rfl) k.gtup bt_tuple rfl) pa_nil))))) (pw_or (pt_cmpR op_ne (pe_callB call_len_seq (by rfl) glen PySem.boot_len (pa_cons (pv 0) pa_nil)) pe_int (nomark _)) (pw_or1 (pt_cmpR op_notIn_seq (pe_ix ix_tup (pv 0) pe_int (fun _ _ => rfl)) (pe_lst (pa_cons pe_str (pa_cons pe_str pa_nil))) (by with_unfolding_all rfl))))).pt (pss_one (ps_ret pe_non)) pss_nil
    case s1 => exact ps_set (i := 1) scAlong.nd rfl (Or.inr rfl) (pe_ix ix_tup (pv 0) pe_int (fun _ _ => rfl))
    case s2 =>
      refine' ps_if (pw_or (pt_not (pt_val (pe_callB call_isV (by rfl) k.gis boot_isinstance (pa_cons (pv 1) (pa_cons (pe_bltn (v := .ty "list") (by rfl) k.glist bt_list rfl) pa_nil))))) (pw_or (pt_cmpR op_lt (pe_callB call_len_seq (by rfl) glen PySem.boot_len (pa_cons (pv 1) pa_nil)) pe_int (nomark _)) (pw_or1 (pt_not (pt_val (pe_callB (call_allB rfl) (by rfl) gall boot_all (pa_cons ?cc pa_nil))))))).pt (pss_one (ps_ret pe_non)) pss_nil
      case cc => exact pe_comp (g := gName 1) (own := [".0", "_law_a"]) (cl := []) (caps := []) (js := []) rfl (caps0 rfl rfl (by decide +kernel) (by decide +kernel)) (pi_list (pv 1)) (fun pins C s H1 fp => pg_name (i := 1) nd_ownA rfl (Or.inl rfl) (Or.inr rfl)) (fun pins C s H1 fp => pts_nil) (fun pins C s H1 fp => pe_call GW hr1 rfl mW kW bW .nil pass0 (pa_cons (pv 1) pa_nil))
    case s4 =>
      refine' ps_if (pt_cmpR op_eq (pe_ix ix_tup (pv 0) pe_int (fun _ _ => rfl)) pe_str (nomark _)) (pss_cons ?d0 (pss_one ?d1)) pss_nil
      case d0 => exact ps_if (pt_cmpR op_lt (pe_callB call_len_seq (by rfl) glen PySem.boot_len (pa_cons (pv 1) pa_nil)) pe_int (nomark _)) (pss_one (ps_ret pe_non)) pss_nil
      case d1 => exact ps_expr (pe_bm PySem.F.plainAttrs_list PySem.F.slot_list_append PySem.F.type_list_append mt_append (pv 2) (pa_cons (pe_call GT hr1 (by rfl) mT kT bT .nil pass0 (pa_cons (pe_ix ix_list (pv 1) pe_int (fun _ _ => rfl)) (pa_cons (pe_ix ix_list (pv 1) (pe_un un_neg pe_int) (fun _ _ => rfl)) pa_nil))) pa_nil))
    have g0 : atI [V.str (wrd r), V.ref m] 0 = some (.str (wrd r)) := rfl
    have g1 : atI [V.str (wrd r), V.ref m] 1 = some (.ref m) := rfl
    refine ⟨_, rfl, _, "tuple", _, true, rfl, .tup hg, k.tt, ⟨true, rfl, iteF ?_⟩⟩
    refine ⟨_, rfl, g, _, rfl, .inr (SqT.of hg), rfl, _, rfl, iteF ?_⟩
    refine ⟨_, rfl, g, _, _, _, rfl, rfl, SqT.of hg, g0, (by show 2 ≤ sizeLine; decide), fun l1 h1 => ?_⟩
    have s1 : Same H (upd H l1 (.lst [.str "row", .str "ring"])) := Same.new' h1
    refine ⟨l1, _, rfl, .inl (SqL.of upd_same), rfl, rfl, _, rfl, ?_⟩
    rw [if_pos rfl, wrd_in]
    refine iteF ?_
    generalize upd H l1 (.lst [.str "row", .str "ring"]) = H1 at s1 ⊢
    refine ⟨_, rfl, g, _, _, _, rfl, rfl, SqT.of (s1 g _ hg), g1, ?_⟩
    dsimp only [gName, List.set_cons_succ, List.set_cons_zero]
    have hm1 := s1 m _ hm
    refine ⟨_, rfl, _, "list", _, true, rfl, .lst hm1, k.ll, ⟨true, rfl, iteF ?_⟩⟩
    refine ⟨_, rfl, m, _, rfl, .inl (SqL.of hm1), _, _, rfl, rfl, _, rfl, ?_⟩
    rw [List.length_map, decide_eq_false (show ¬ (t.length : Int) < 2 by omega)]
    refine iteF ?_
    refine ⟨_, rfl, m, rfl, ⟨_, SqL.of hm1⟩, fun D2 hD => ?_⟩
    refine turns_list (K := K) (a := m) (xs := t.map V.int) (fun i ys σ H5 => ∃ (e0 e1 : Option V), ys = ((t.take i).map fun _ => true).map V.bl ∧ σ = [e0, e1] ∧ Same H1 H5 ∧ H5 D2 = some (.lst ys)) ⟨none, none, rfl, rfl, Same.new' hD, upd_same⟩ ?_ ?_ ?_
    · rintro i ys σ H5 ⟨e0, e1, rfl, rfl, s5, h5⟩
      refine ⟨h5, small1000 ?_, SqL.of (s5 m _ hm1)⟩
      rw [List.length_map, List.length_map, List.length_take]
      omega
    · rintro i x ys σ H5 hi ⟨e0, e1, rfl, rfl, s5, h5⟩
      have hil : i < (t.map V.int).length := (List.getElem?_eq_some_iff.mp hi).1
      obtain ⟨y, rfl, ey⟩ := map_int_at hi
      unfold gName
      dsimp only
      refine yes_of ⟨_, rfl, y, rfl, h5, Nxt.mk hil ⟨_, _, ?_, rfl, fun b o e => ?_, upd_same⟩⟩
      · rw [List.take_succ, ey, List.map_append, List.map_append]; rfl
      · rw [upd_ne (ne_of_none e hD)]; exact s5 b o e
    rintro ys σ0 H2 ⟨e0, e1, rfl, rfl, s2, h2⟩
    refine ⟨D2, _, rfl, SqL.of h2, true, ?_, iteF ?_⟩
    · have : ∀ l : List Int, (l.map fun _ => true).all id = true := fun l => by rw [List.all_map]; exact List.all_eq_true.mpr fun _ _ => rfl
      rw [this]
    have s02 := s1.trans s2
    refine ⟨m, t, rfl, s02 m _ hm, l2, l200, fun l3 zs H3 n3 s3 h3 hz => ?_⟩
    dsimp only [List.set_cons_succ, List.set_cons_zero]
    have s03 := s02.trans s3
    have hm3 := s03 m _ hm
    refine ⟨_, rfl, g, _, _, _, rfl, rfl, SqT.of (s03 g _ hg), g0, rfl, _, rfl, ?_⟩
    rw [wrd_ring]
    cases r with
    | true =>
      refine iteF ?_
      refine ⟨_, rfl, hQ l3 zs H3 s03 h3 ?_⟩
      have ea : Bt.alg (true, t) = Bt.alo t := by unfold Bt.alg; simp
      rw [ea]; exact hz
    | false =>
      have l4 : 4 ≤ t.length := hlen
      refine iteT ?_
      refine ⟨_, rfl, m, _, rfl, .inl (SqL.of hm3), _, _, rfl, rfl, _, rfl, ?_⟩
      rw [List.length_map, decide_eq_false (show ¬ (t.length : Int) < 4 by omega)]
      refine iteF ?_
      have ga : atI (t.map V.int) 0 = some (.int (t.getD 0 0)) := atI_get' (k := 0) rfl (by omega)
      have gb : atI (t.map V.int) (-1) = some (.int (t.getD (t.length - 1) 0)) := atI_end (by rw [List.length_map]; omega) (by rw [List.length_map, List.getElem?_map]; simp [show t.length - 1 < t.length by omega])
      have lz := Paired.length hz
      rw [Bt.alo_len] at lz
      refine ⟨_, rfl, .inl ⟨rfl, _, SqL.of h3⟩, _, rfl, m, _, _, _, rfl, rfl, SqL.of hm3, ga, _, rfl, _, rfl, m, _, _, _, rfl, rfl, SqL.of hm3, gb, _, _, rfl, fun q hq => ?_⟩
      have s4 : Same H3 (upd H3 q (.tup ((Bt.tie (t.getD 0 0) (t.getD (t.length - 1) 0)).map V.int))) := Same.new' hq
      have hq4 : upd H3 q (.tup ((Bt.tie (t.getD 0 0) (t.getD (t.length - 1) 0)).map V.int)) q = some (.tup ((Bt.tie (t.getD 0 0) (t.getD (t.length - 1) 0)).map V.int)) := upd_same
      generalize upd H3 q (.tup ((Bt.tie (t.getD 0 0) (t.getD (t.length - 1) 0)).map V.int)) = H4 at s4 hq4 ⊢
      have h4 := s4 l3 _ h3
      refine ⟨l3, _, _, rfl, rfl, h4, small1000 (by rw [List.length_map]; omega), ?_⟩
      refine ⟨_, rfl, hQ l3 (zs ++ [q]) _ (fun b o e => ?_) (by rw [upd_same, List.map_append]; rfl) ?_⟩
      · rw [upd_ne (ne_of_none (s02 b o e) n3)]; exact s4 b o (s03 b o e)
      · have ea : Bt.alg (false, t) = Bt.alo t ++ [Bt.tie (t.getD 0 0) (t.getD (t.length - 1) 0)] := by unfold Bt.alg; simp
        rw [ea]
        refine TupsH.tu (paired_snoc (TupsH.sm hz s4) ⟨hq4, by unfold Bt.tie; simp⟩) fun b xs e => ?_
        rw [upd_ne (fun z => by subst z; rw [h4] at e; cases e)]; exact e
end
end K25

/-! ### k25: right -/
namespace K25
open PySem L2 PyProof.Rows
section
variable {P : Program} {w : World} {K : PySem.W.Frag} {mg : Str → Option Value} {base : Heap}
/-- the ties that are not in the other list -/
theorem turns_onl {K : PySem.W.Frag} {a b D : Addr} {rs qs : List Addr} {ts us : List (List Int)} {tt : TT} {Qd : Hp → Prop} {H1 : Hp} (ha : H1 a = some (.lst (rs.map V.ref))) (hb : H1 b = some (.lst (qs.map V.ref))) (hT : TupsH H1 rs ts) (hU : TupsH H1 qs us) (lt : ts.length ≤ 900) (hD : H1 D = none)
    (htt : ∀ (e0 : Option V) (r : Addr) (t : List Int) (H4 : Hp) (κ : Bool → Hp → Prop), H4 r = some (.tup (t.map V.int)) → H4 b = some (.lst (qs.map V.ref)) → TupsH H4 qs us → κ (!decide (t ∈ us)) H4 → tt [e0, some (.ref r), some (.ref b)] H4 κ)
    (hd : ∀ zs H5, Same H1 H5 → H5 D = some (.lst (zs.map V.ref)) → TupsH H5 zs (Bt.onl ts us) → Qd H5) : tTurns (Itl K a) (gName 1) tt (tVar 1) [none, none, some (.ref b)] D Qd H1 := by
  have lq := Paired.length hT
  refine turns_list (K := K) (a := a) (xs := rs.map V.ref) (fun i ys σ H5 => ∃ (zs : List Addr) (e0 e1 : Option V), ys = zs.map V.ref ∧ σ = [e0, e1, some (.ref b)] ∧ Same H1 H5 ∧ H5 D = some (.lst ys) ∧ TupsH H5 zs (Bt.onl (ts.take i) us)) ⟨[], none, none, rfl, rfl, Same.new' hD, upd_same, .nil⟩ ?_ ?_ ?_
  · rintro i ys σ H5 ⟨zs, e0, e1, rfl, rfl, s5, h5, hz⟩
    refine ⟨h5, small1000 ?_, SqL.of (s5 a _ ha)⟩
    have h1 := Paired.length hz
    have := List.length_filter_le (fun x => !decide (x ∈ us)) (ts.take i)
    rw [List.length_take] at this
    rw [List.length_map, h1]
    unfold Bt.onl
    omega
  · rintro i x ys σ H5 hi ⟨zs, e0, e1, rfl, rfl, s5, h5, hz⟩
    have hil : i < (rs.map V.ref).length := (List.getElem?_eq_some_iff.mp hi).1
    obtain ⟨r, y, rfl, ey, hr5, ny⟩ := tie_at (TupsH.sm hT s5) hi
    have ef : Bt.onl (ts.take (i + 1)) us = Bt.onl (ts.take i) us ++ Bt.onl [y] us := by
      unfold Bt.onl
      rw [List.take_succ, ey, List.filter_append]; rfl
    unfold gName
    dsimp only
    refine htt e0 r y H5 _ hr5 (s5 b _ hb) (TupsH.sm hU s5) ?_
    refine ite2 (fun c => ?_) (fun c => ?_)
    · rw [show Bt.onl [y] us = [y] by unfold Bt.onl; rw [List.filter_cons, if_pos c]; rfl] at ef
      refine ⟨_, rfl, h5, Nxt.mk hil ⟨zs ++ [r], _, _, by rw [List.map_append]; rfl, rfl, fun b o e => ?_, upd_same, ?_⟩⟩
      · rw [upd_ne (ne_of_none e hD)]; exact s5 b o e
      · rw [ef]
        refine TupsH.tu (paired_snoc hz ⟨hr5, ny⟩) fun b xs e => ?_
        rw [upd_ne (fun z => by subst z; rw [h5] at e; cases e)]; exact e
    · rw [show Bt.onl [y] us = [] by unfold Bt.onl; rw [List.filter_cons, if_neg c]; rfl, List.append_nil] at ef
      exact Nxt.mk hil ⟨zs, _, _, rfl, rfl, s5, h5, by rw [ef]; exact hz⟩
  · rintro ys σ0 H5 ⟨zs, e0, e1, rfl, rfl, s5, h5, hz⟩
    rw [List.length_map, lq, List.take_length] at hz
    exact hd zs H5 s5 h5 hz
theorem tups_app {H : Hp} {a1 a2 : List Addr} {b1 b2 : List (List Int)} (h : TupsH H a1 b1) (g : TupsH H a2 b2) : TupsH H (a1 ++ a2) (b1 ++ b2) := by
  induction h with
  | nil => exact g
  | cons p _ ih => exact .cons p ih
def spRight : Sp := fun vs H Q _ => ∃ (lf l1 l2 : Addr) (fs rs qs : List Addr) (H0 : Hp) (F : List (Bool × List Int)) (D O T : List (List Int)), vs = [.ref lf, .ref l1, .ref l2] ∧ H lf = some (.lst (fs.map V.ref)) ∧ FsH H0 H fs F ∧ Bt.Found D F ∧ (F.flatMap Bt.alg).Perm (Bt.dif O T) ∧ H l1 = some (.lst (rs.map V.ref)) ∧ H l2 = some (.lst (qs.map V.ref)) ∧ TupsH H rs O ∧ TupsH H qs T ∧ O.length ≤ 15 ∧ T.length ≤ 15 ∧
  ∀ H', Same H H' → Q (.bl true) H'
abbrev nmR : List Str := ["_law_found", "_law_one", "_law_other", "_law_points", "_law_ties", "_law_told", "_law_along_here", "_law_due"]
abbrev psR : List Str := ["_law_found", "_law_one", "_law_other"]
theorem scRight : FnScope nmR psR (defScope sRight) := ⟨rfl, rfl, rfl, by decide +kernel, rfl, by decide +kernel, by decide +kernel⟩
abbrev XR (P : Program) (w : World) (K : PySem.W.Frag) (mg : Str → Option Value) (base : Heap) (f : Addr) (cdv : Value) (A : Around) (outer : List Env) (s : Shared) (H : Hp) (E : XK) : Cx := (cxOf CX0 P w K mg base nmR "_law_right" (defScope sRight) f cdv A outer s H E).nox
def compR1 : Scope := { kind := .function, names := [(Str.ofString ".0", .local), (Str.ofString "_law_tie_here", .local), (Str.ofString "_law_other", .free)], isGenerator := false, isCoroutine := false, more := [] }
theorem nd_compR1 : ([".0", "_law_tie_here", "_law_other"] : List Str).Nodup := by decide +kernel
theorem capsR1 {f : Addr} {cdv : Value} {A : Around} {outer : List Env} {s : Shared} {H : Hp} {E : XK} : Caps (XR P w K mg base f cdv A outer s H E) compR1 [(Str.ofString "_law_other", s.heap.objs.size + 1 + 1)] [".0", "_law_tie_here"] ["_law_other"] [2] := by
  have e1 : (XR P w K mg base f cdv A outer s H E).env.cells = [(Str.ofString "_law_other", s.heap.objs.size + 1 + 1), (Str.ofString "_law_one", s.heap.objs.size + 1)] := by rfl
  have e2 : (relabel compR1 (XR P w K mg base f cdv A outer s H E).env).names = [(Str.ofString ".0", .local), (Str.ofString "_law_tie_here", .local), (Str.ofString "_law_other", .cell)] := by rfl
  refine ⟨rfl, fun x c h => ?_, rfl, by decide +kernel, by decide +kernel, fun x hx => ?_, rfl, fun i x e => ?_⟩
  · have hx : (x = Str.ofString "_law_other" ∧ c = s.heap.objs.size + 1 + 1) := by
      have := PySem.mem_of_lookup h
      simpa using this
    obtain ⟨rfl, rfl⟩ := hx
    rw [e1]; rfl
  · rw [e2] at hx
    have hx : x = Str.ofString "_law_other" := by
      rcases hx with hx | hx
      all_goals
        have := PySem.mem_of_lookup hx
        simpa using this
    subst hx
    exact ⟨_, rfl⟩
  · match i, e with
    | 0, e =>
      cases (Option.some.inj e)
      exact ⟨2, rfl, rfl, rfl, rfl, by rw [e2]; rfl⟩
    | n + 1, e => cases e

def compR2 : Scope := { kind := .function, names := [(Str.ofString ".0", .local), (Str.ofString "_law_tie_here", .local), (Str.ofString "_law_one", .free)], isGenerator := false, isCoroutine := false, more := [] }
theorem nd_compR2 : ([".0", "_law_tie_here", "_law_one"] : List Str).Nodup := by decide +kernel
theorem capsR2 {f : Addr} {cdv : Value} {A : Around} {outer : List Env} {s : Shared} {H : Hp} {E : XK} : Caps (XR P w K mg base f cdv A outer s H E) compR2 [(Str.ofString "_law_one", s.heap.objs.size + 1)] [".0", "_law_tie_here"] ["_law_one"] [1] := by
  have e1 : (XR P w K mg base f cdv A outer s H E).env.cells = [(Str.ofString "_law_other", s.heap.objs.size + 1 + 1), (Str.ofString "_law_one", s.heap.objs.size + 1)] := by rfl
  have e2 : (relabel compR2 (XR P w K mg base f cdv A outer s H E).env).names = [(Str.ofString ".0", .local), (Str.ofString "_law_tie_here", .local), (Str.ofString "_law_one", .cell)] := by rfl
  refine ⟨rfl, fun x c h => ?_, rfl, by decide +kernel, by decide +kernel, fun x hx => ?_, rfl, fun i x e => ?_⟩
  · have hx : (x = Str.ofString "_law_one" ∧ c = s.heap.objs.size + 1) := by
      have := PySem.mem_of_lookup h
      simpa using this
    obtain ⟨rfl, rfl⟩ := hx
    rw [e1]; rfl
  · rw [e2] at hx
    have hx : x = Str.ofString "_law_one" := by
      rcases hx with hx | hx
      all_goals
        have := PySem.mem_of_lookup hx
        simpa using this
    subst hx
    exact ⟨_, rfl⟩
  · match i, e with
    | 0, e =>
      cases (Option.some.inj e)
      exact ⟨1, rfl, rfl, rfl, rfl, by rw [e2]; rfl⟩
    | n + 1, e => cases e

abbrev rightAt (i : Nat) : Stmt := (defBody sRight).getD i (.Pass ⟨0, 0, 0, 0⟩)
section
variable {f : Addr} {cdv : Value} {A : Around} {outer : List Env} {s : Shared} {H : Hp} {E : XK}
/-- due = [..] + [..] -/
def tDue : TS := fun D σ H => ∃ (l1 l2 : Addr) (rs qs : List Addr) (O T : List (List Int)), σ[1]? = some (some (.ref l1)) ∧ σ[2]? = some (some (.ref l2)) ∧ H l1 = some (.lst (rs.map V.ref)) ∧ H l2 = some (.lst (qs.map V.ref)) ∧ TupsH H rs O ∧ TupsH H qs T ∧ O.length ≤ 15 ∧ T.length ≤ 15 ∧
  ∀ l zs H', Same H H' → H' l = some (.lst (zs.map V.ref)) → TupsH H' zs (Bt.dif O T) → D.nx (σ.set 7 (some (.ref l))) H'
theorem ok_due (hu : (XR P w K mg base f cdv A outer s H E).A.units + 1 < cLine) : PS (XR P w K mg base f cdv A outer s H E) (rightAt 4) tDue := by
  refine' PS.imp (t' := tDue) (ps_set (i := 7) scRight.nd rfl (Or.inl rfl) (pe_op op_cat ?c1 ?c2)) ?_
  case c1 => exact pe_comp (g := gName 1) (own := [".0", "_law_tie_here"]) (caps := ["_law_other"]) (js := [2]) rfl capsR1 (pi_list (pv 1)) (fun pins C s H1 fp => pg_name (i := 1) nd_compR1 rfl (Or.inl rfl) (Or.inr rfl)) (fun pins C s H1 fp => pts_one (pt_cmpR (op_notInTK K rfl hu) (pv 1) (pv 2) (by with_unfolding_all rfl))) (fun pins C s H1 fp => pv 1)
  case c2 => exact pe_comp (g := gName 1) (own := [".0", "_law_tie_here"]) (caps := ["_law_one"]) (js := [1]) rfl capsR2 (pi_list (pv 2)) (fun pins C s H1 fp => pg_name (i := 1) nd_compR2 rfl (Or.inl rfl) (Or.inr rfl)) (fun pins C s H1 fp => pts_one (pt_cmpR (op_notInTK K rfl hu) (pv 1) (pv 2) (by with_unfolding_all rfl))) (fun pins C s H1 fp => pv 1)
  rintro D σ H1 ⟨l1, l2, rs, qs, O, T, e1, e2, h1, h2, hO, hT, lO, lT, k⟩
  refine ⟨_, e1, l1, rfl, ⟨_, SqL.of h1⟩, fun D2 hD => ?_⟩
  have eC : σC ([".0", "_law_tie_here"] : List Str).length [2] σ = [none, none, some (.ref l2)] := by
    show [none, none, (σ[2]?).getD none] = _
    rw [e2]
    rfl
  rw [eC]
  refine turns_onl (K := K) h1 h2 hO hT (by omega) hD (fun e0 r t H4 κ hr4 hb4 hU4 kk => ?_) (fun zs H5 s5 h5 hz => ?_)
  · refine ⟨_, rfl, _, rfl, r, t, l2, qs, T, rfl, hr4, rfl, SqL.of hb4, hU4, _, rfl, ?_⟩
    rw [any_mem]; exact kk
  refine ⟨_, e2, l2, rfl, ⟨_, SqL.of (s5 l2 _ h2)⟩, fun D3 hD3 => ?_⟩
  have eC2 : σC ([".0", "_law_tie_here"] : List Str).length [1] σ = [none, none, some (.ref l1)] := by
    show [none, none, (σ[1]?).getD none] = _
    rw [e1]
    rfl
  rw [eC2]
  refine turns_onl (K := K) (s5 l2 _ h2) (s5 l1 _ h1) (TupsH.sm hT s5) (TupsH.sm hO s5) (by omega) hD3 (fun e0 r t H4 κ hr4 hb4 hU4 kk => ?_) (fun ys H6 s6 h6 hy => ?_)
  · refine ⟨_, rfl, _, rfl, r, t, l1, rs, O, rfl, hr4, rfl, SqL.of hb4, hU4, _, rfl, ?_⟩
    rw [any_mem]; exact kk
  have q1 := Paired.length hz
  have q2 := Paired.length hy
  have d1 := List.length_filter_le (fun x => !decide (x ∈ T)) O
  have d2 := List.length_filter_le (fun x => !decide (x ∈ O)) T
  unfold Bt.onl at q1 q2
  refine ⟨D2, D3, _, _, rfl, rfl, s6 D2 _ h5, h6, Nat.le_of_lt (small1000 (by rw [List.length_map, List.length_map]; omega)), fun l hl => ?_⟩
  have s7 : Same H6 (upd H6 l (.lst (zs.map V.ref ++ ys.map V.ref))) := Same.new' hl
  exact k l (zs ++ ys) _ (s5.trans (s6.trans s7)) (by rw [upd_same, List.map_append]) (tups_app (TupsH.sm hz (s6.trans s7)) (TupsH.sm hy s7))
end
theorem alg_ge (k : Bool × List Int) (h : 2 ≤ k.2.length) : k.2.length ≤ 2 * (Bt.alg k).length := by
  unfold Bt.alg
  rw [List.length_append, Bt.alo_len]
  omega
theorem whole_two {D : List (List Int)} {k : Bool × List Int} (h : Bt.Whole D k) : 2 ≤ k.2.length := by
  have := h.len
  split at this <;> omega
theorem pts_alg {D : List (List Int)} : ∀ {F : List (Bool × List Int)}, (∀ k ∈ F, Bt.Whole D k) → (F.flatMap (·.2)).length ≤ 2 * (F.flatMap Bt.alg).length
  | [], _ => Nat.le_refl _
  | k :: F, h => by
    have h1 := pts_alg (F := F) fun j hj => h j (.tail _ hj)
    have h2 := alg_ge k (whole_two (h k (.head _)))
    rw [List.flatMap_cons, List.flatMap_cons, List.length_append, List.length_append]
    omega
theorem flat_take {α : Type} (g : Bool × List Int → List α) (F : List (Bool × List Int)) (i : Nat) : ((F.take i).flatMap g).length ≤ (F.flatMap g).length := by
  have h : F.flatMap g = (F.take i).flatMap g ++ (F.drop i).flatMap g := by rw [← List.flatMap_append, List.take_append_drop]
  rw [h, List.length_append]
  omega
theorem ok_right {f fA : Addr} {fd fdA : FuncData} (F : Fun K "_law_right" "_law_right" sRight f fd) (k : Kit K mg) (glen : mg "len" = none) (gset : mg "set" = none) (gsrt : mg "sorted" = none)
    (GA : FnOk P w K mg base CX0 2 fA fdA ["_law_told"] spAlong) (mA : mg "_law_along" = some (.ref fA)) (kA : PySem.W.keepIn K (.ref fA) = true) (bA : Binds K fdA ["_law_told"] []) : FnOk P w K mg base CX0 3 f fd psR spRight := by
  refine F.ok scRight (fun vs H Q E h => ?_) (fun cdv A outer s H vs Q E hr h => ?_)
  · obtain ⟨lf, l1, l2, fs, rs, qs, H0, F', D, O, T, rfl, _⟩ := h
    rfl
  · obtain ⟨lf, l1, l2, fs, rs, qs, H0, G, D, O, T, rfl, hf, hF, fnd, pm, h1, h2, hO, hT, lO, lT, hQ⟩ := h
    have hu := hu_of hr
    have hr2 : Room 2 (XR P w K mg base f cdv A outer s H E).A := hr
    have lq := Paired.length hF
    have lD : (G.flatMap Bt.alg).length ≤ 30 := by rw [pm.length_eq]; have := dif_len O T; omega
    have lP : (G.flatMap (·.2)).length ≤ 60 := by have := pts_alg fnd.wh; omega
    refine' ⟨_, pss_cons ?s0 (pss_cons ?s1 (pss_cons ?s2 (pss_cons (ps_for ?qa ?qb ?qc ?qd (pss_cons ?b0 (pss_cons ?b1 (pss_cons ?b2 (pss_one ?b3))))) (pss_cons (ok_due hu) (pss_one ?s5))))), ?_⟩
    case s0 => exact ps_if (pt_not (pt_val (pe_callB call_isV (by rfl) k.gis boot_isinstance (pa_cons (pv 0) (pa_cons (pe_bltn (v := .ty "list") (by rfl) k.glist bt_list rfl) pa_nil))))) (pss_one (ps_ret pe_bl)) pss_nil
    case s1 => exact ps_set (i := 3) scRight.nd rfl (Or.inl rfl) (pe_lst pa_nil)
    case s2 => exact ps_set (i := 4) scRight.nd rfl (Or.inl rfl) (pe_lst pa_nil)
    case qa => exact PassesOwn.never
    case qb => exact rfl
    case qc => exact pi_list (pv 0)
    case qd => exact pg_name (i := 5) scRight.nd rfl (Or.inl rfl)
    case b0 => exact ps_set (i := 6) scRight.nd rfl (Or.inl rfl) (pe_call GA hr2 (by rfl) mA kA bA .nil pass0 (pa_cons (pv 5) pa_nil))
    case b1 => exact ps_if (pt_cmpR op_isN (pv 6) pe_non (nomark _)) (pss_one (ps_ret pe_bl)) pss_nil
    case b2 => exact ps_set (i := 3) scRight.nd rfl (Or.inl rfl) (pe_op op_cat (pv 3) (pe_ix ix_tup (pv 5) pe_int (fun _ _ => rfl)))
    case b3 => exact ps_set (i := 4) scRight.nd rfl (Or.inl rfl) (pe_op op_cat (pv 4) (pv 6))
    case s5 => exact ps_ret (pe_and (pe_cmpR op_eq (pe_lenSet (by rfl) glen (by rfl) gset rfl (pa_cons (pv 3) pa_nil)) (pe_callB call_len_seq (by rfl) glen PySem.boot_len (pa_cons (pv 3) pa_nil)) (nomark _)) (pe_one (pe_cmpR (op_eqLT hu) (pe_callB call_sortedL (by rfl) gsrt boot_sorted (pa_cons (pv 4) pa_nil)) (pe_callB call_sortedL (by rfl) gsrt boot_sorted (pa_cons (pv 7) pa_nil)) (nomark _))))
    refine ⟨_, rfl, _, "list", _, true, rfl, .lst hf, k.ll, ⟨true, rfl, iteF ?_⟩⟩
    refine ⟨Nat.zero_le _, fun p0 n1 => ⟨Nat.zero_le _, fun t0 n2 => ?_⟩⟩
    have s1 : Same H (upd H p0 (.lst [])) := Same.new' n1
    have s2 : Same (upd H p0 (.lst [])) (upd (upd H p0 (.lst [])) t0 (.lst [])) := Same.new' n2
    have hp0 : upd (upd H p0 (.lst [])) t0 (.lst []) p0 = some (.lst []) := s2 p0 _ upd_same
    have ht0 : upd (upd H p0 (.lst [])) t0 (.lst []) t0 = some (.lst []) := upd_same
    have s02 := s1.trans s2
    generalize upd (upd H p0 (.lst [])) t0 (.lst []) = H2 at s02 hp0 ht0 ⊢
    dsimp only [gName, List.set_cons_succ, List.set_cons_zero]
    refine ⟨_, rfl, lf, rfl, ⟨_, SqL.of (s02 lf _ hf)⟩, for_list (K := K) (a := lf) (xs := fs.map V.ref)
      (fun i σ H3 => ∃ (lp lt : Addr) (zs : List Addr) (e5 e6 e7 : Option V), σ = [some (.ref lf), some (.ref l1), some (.ref l2), some (.ref lp), some (.ref lt), e5, e6, e7] ∧ Same H H3 ∧ H3 lp = some (.lst (((G.take i).flatMap (·.2)).map V.int)) ∧ H3 lt = some (.lst (zs.map V.ref)) ∧ TupsH H3 zs ((G.take i).flatMap Bt.alg))
      ⟨p0, t0, [], _, _, _, rfl, s02, hp0, ht0, .nil⟩ (fun i σ H3 _ ⟨_, _, _, _, _, _, _, s3, _⟩ => SqL.of (s3 lf _ hf)) ?_ ?_⟩
    · rintro i x σ H3 hi ⟨lp, lt, zs, e5, e6, e7, rfl, s3, hp3, ht3, hz⟩
      rw [List.getElem?_map] at hi
      obtain ⟨g, eg, rfl⟩ := Option.map_eq_some_iff.mp hi
      obtain ⟨j, ej, fh⟩ := Sx.pair_at hF eg
      have mj : j ∈ G := List.mem_of_getElem? ej
      have wj := fnd.wh j mj
      obtain ⟨m, hg, hm, hm0⟩ := fh
      have lj : j.2.length ≤ 60 := by
        have h1 : (G.take (i + 1)).flatMap (·.2) = (G.take i).flatMap (·.2) ++ j.2 := by rw [List.take_succ, ej, List.flatMap_append]; simp
        have h2 := flat_take (·.2) G (i + 1)
        rw [h1, List.length_append] at h2
        omega
      have eP : (G.take (i + 1)).flatMap (·.2) = (G.take i).flatMap (·.2) ++ j.2 := by rw [List.take_succ, ej, List.flatMap_append]; simp
      have eA : (G.take (i + 1)).flatMap Bt.alg = (G.take i).flatMap Bt.alg ++ Bt.alg j := by rw [List.take_succ, ej, List.flatMap_append]; simp
      have lpi := flat_take (·.2) G i
      have lai := flat_take Bt.alg G (i + 1)
      rw [eA, List.length_append] at lai
      unfold gName
      dsimp only [List.set_cons_succ, List.set_cons_zero]
      refine ⟨_, rfl, g, H0, j, rfl, ⟨m, s3 _ _ hg, s3 _ _ hm, hm0⟩, wj.len, by omega, fun la ys H4 s4 h4 hy => ?_⟩
      dsimp only [List.set_cons_succ, List.set_cons_zero]
      have s04 := s3.trans s4
      have qz := Paired.length hz
      have qy := Paired.length hy
      refine ⟨_, rfl, rfl, _, rfl, ?_⟩
      rw [decide_eq_false (show ¬ V.ref la = V.non from fun z => by cases z)]
      refine iteF ?_
      have g1 : atI [V.str (wrd j.1), V.ref m] 1 = some (.ref m) := rfl
      refine ⟨_, rfl, _, rfl, g, _, _, _, rfl, rfl, SqT.of (s04 g _ hg), g1, lp, m, _, _, rfl, rfl, s4 lp _ hp3, s04 m _ hm, Nat.le_of_lt (small1000 (by rw [List.length_map, List.length_map]; omega)), fun lp2 n5 => ?_⟩
      have s5 : Same H4 (upd H4 lp2 (.lst (((G.take i).flatMap (·.2)).map V.int ++ j.2.map V.int))) := Same.new' n5
      have h5 : upd H4 lp2 (.lst (((G.take i).flatMap (·.2)).map V.int ++ j.2.map V.int)) lp2 = some (.lst (((G.take (i + 1)).flatMap (·.2)).map V.int)) := by rw [upd_same, eP, List.map_append]
      generalize upd H4 lp2 (.lst (((G.take i).flatMap (·.2)).map V.int ++ j.2.map V.int)) = H5 at s5 h5 ⊢
      dsimp only [List.set_cons_succ, List.set_cons_zero]
      refine ⟨_, rfl, _, rfl, lt, la, _, _, rfl, rfl, (s4.trans s5) lt _ ht3, s5 la _ h4, Nat.le_of_lt (small1000 (by rw [List.length_map, List.length_map]; omega)), fun lt2 n6 => ?_⟩
      have s6 : Same H5 (upd H5 lt2 (.lst (zs.map V.ref ++ ys.map V.ref))) := Same.new' n6
      refine ⟨lp2, lt2, zs ++ ys, _, _, _, rfl, s04.trans (s5.trans s6), s6 lp2 _ h5, by rw [upd_same, List.map_append], ?_⟩
      rw [eA]
      exact tups_app (TupsH.sm hz (s4.trans (s5.trans s6))) (TupsH.sm hy (s5.trans s6))
    · rintro σ H3 ⟨lp, lt, zs, e5, e6, e7, rfl, s3, hp3, ht3, hz⟩
      rw [List.length_map, lq, List.take_length] at hp3 hz
      have qz := Paired.length hz
      refine ⟨l1, l2, rs, qs, O, T, rfl, rfl, s3 _ _ h1, s3 _ _ h2, TupsH.sm hO s3, TupsH.sm hT s3, lO, lT, fun ld ds H4 s4 h4 hd => ?_⟩
      dsimp only [List.set_cons_succ, List.set_cons_zero]
      have s04 := s3.trans s4
      have hp4 := s4 lp _ hp3
      have qd := Paired.length hd
      have ld30 := dif_len O T
      refine ⟨_, rfl, lp, _, rfl, SqL.of hp4, by omega, _, rfl, lp, _, rfl, .inl (SqL.of hp4), rfl, true, ?_, iteT ?_⟩
      · rw [List.length_map]
        have : unlike (G.flatMap (·.2)) = (G.flatMap (·.2)).length := unlike_len.mpr fnd.nd
        rw [this, decide_eq_true rfl]
      refine ⟨_, rfl, lt, zs, _, rfl, SqL.of (s4 lt _ ht3), by omega, TupsH.sm hz s4, fun zs' ts' k1 S1 n5 => ?_⟩
      obtain ⟨t1, p1, _⟩ := (TupsH.sm hz s4).sorted S1
      have s5 : Same H4 (upd H4 k1 (.lst (zs'.map V.ref))) := Same.new' n5
      have g5 : upd H4 k1 (.lst (zs'.map V.ref)) k1 = some (.lst (zs'.map V.ref)) := upd_same
      generalize upd H4 k1 (.lst (zs'.map V.ref)) = H5 at s5 g5 ⊢
      refine ⟨_, rfl, ld, ds, _, rfl, SqL.of (s5 ld _ h4), by omega, TupsH.sm hd s5, fun ds' us' k2 S2 n6 => ?_⟩
      obtain ⟨t2, p2, _⟩ := (TupsH.sm hd s5).sorted S2
      have s6 : Same H5 (upd H5 k2 (.lst (ds'.map V.ref))) := Same.new' n6
      refine ⟨k1, k2, zs', ds', ts', us', rfl, rfl, SqL.of (s6 k1 _ g5), SqL.of upd_same, TupsH.sm t1 (s5.trans s6), TupsH.sm t2 s6, ?_⟩
      have es : ts' = us' := Mt.sorted_eq (p1.trans (pm.trans p2.symm)) S1.ord S2.ord
      rw [decide_eq_true es]
      exact hQ _ (s04.trans (s5.trans s6))
end
end K25

/-! ### k25: the law -/
namespace L2
open PySem PySem.Spec PyProof.Rows
section
variable {X : Cx} {pins : List (Addr × Obj)} {σ : St} {H : Hp} {s : Shared}
theorem Inv.eqLT (I : Inv X pins σ H s) {A : Around} {a b : Addr} {rs qs : List Addr} {ts : List (List Int)} (ha : SqL X.K H a (rs.map V.ref)) (hb : SqL X.K H b (qs.map V.ref)) (hp : TupsH H rs ts) (hq : TupsH H qs ts) (hu : A.units + 1 < cLine) : SeqAt.EqAt A s (.ref a) (.ref b) true := by
  by_cases e : a = b
  · subst e
    exact SeqAt.EqAt.same _
  obtain ⟨ia, ra, pa, _⟩ := I.list ha
  obtain ⟨ib, rb, pb, _⟩ := I.list hb
  obtain rfl := refs_of ra
  obtain rfl := refs_of rb
  have l1 := Paired.length hp
  have l2 := Paired.length hq
  have := SeqAt.RcAt.lists (A := A) (e := fun _ => true) pa.isList pb.isList (by simp; omega) (by omega) fun j h1 h2 => by
    have h1' : j < rs.length := by simpa using h1
    have h2' : j < qs.length := by simpa using h2
    obtain ⟨t, et, ht, _⟩ := Sx.pair_at (i := j) (a := rs[j]) hp (by simp [h1'])
    obtain ⟨t', et', ht', _⟩ := Sx.pair_at (i := j) (a := qs[j]) hq (by simp [h2'])
    rw [et] at et'
    cases et'
    have := Sx.eqAt_tups (A := A.in1) (I.tupI ht) (I.tupI ht') hu
    rw [decide_eq_true rfl] at this
    simpa using this
  rw [show ((List.range (rs.map Value.ref).toArray.size).all fun _ => true) = true from List.all_eq_true.mpr fun _ _ => rfl] at this
  exact SeqAt.EqAt.of_refs e this
/-- [pairs, pairs] == [pairs, pairs], both the same -/
theorem op_eqTT (hu : X.A.units + 2 < cLine) : OpR X (compareOp .Eq) (fun x y H Q => ∃ (a b a1 a2 b1 b2 : Addr) (rs qs rs' qs' : List Addr) (ts us : List (List Int)), x = .ref a ∧ y = .ref b ∧ SqL X.K H a [.ref a1, .ref a2] ∧ SqL X.K H b [.ref b1, .ref b2] ∧
    SqL X.K H a1 (rs.map V.ref) ∧ SqL X.K H b1 (qs.map V.ref) ∧ TupsH H rs ts ∧ TupsH H qs ts ∧ SqL X.K H a2 (rs'.map V.ref) ∧ SqL X.K H b2 (qs'.map V.ref) ∧ TupsH H rs' us ∧ TupsH H qs' us ∧ Q (.bl true) H) := by
  intro pins s σ H x y v u Q I rx ry h
  obtain ⟨a, b, a1, a2, b1, b2, rs, qs, rs', qs', ts, us, rfl, rfl, ha, hb, h1, h2, hp, hq, h3, h4, hp', hq', q⟩ := h
  cases rx
  cases ry
  obtain ⟨ia, ra, pa, _⟩ := I.list ha
  obtain ⟨ib, rb, pb, _⟩ := I.list hb
  obtain rfl := refs_of (rs := [a1, a2]) ra
  obtain rfl := refs_of (rs := [b1, b2]) rb
  refine SeqAt.eq_listAt (e := fun _ => true) pa.isList pb.isList (by simp) (by omega) (fun j k1 k2 => ?_) ⟨.bl _, H, I, rfl, ?_⟩
  · match j, k1, k2 with
    | 0, _, _ => exact I.eqLT h1 h2 hp hq (A := X.A.in1) (by show X.A.units + 1 + 1 < cLine; omega)
    | 1, _, _ => exact I.eqLT h3 h4 hp' hq' (A := X.A.in1) (by show X.A.units + 1 + 1 < cLine; omega)
    | n + 2, k1, _ => exact absurd (show n + 2 < 2 from k1) (by omega)
  · exact q
end
end L2
namespace K25
open PySem L2 PyProof.Rows
section
variable {P : Program} {w : World} {K : PySem.W.Frag} {mg : Str → Option Value} {base : Heap}
structure CallsL (P : Program) (w : World) (K : PySem.W.Frag) (mg : Str → Option Value) (base : Heap) : Prop where
  lst : mg "list" = none
  cel : ∃ f fd, mg "_law_cell_at" = some (.ref f) ∧ PySem.W.keepIn K (.ref f) = true ∧ FnOk P w K mg base CX0 1 f fd ["_law_script", "_law_k"] (spCell K) ∧ Binds K fd ["_law_script", "_law_k"] []
  ord : ∃ f fd, mg "_law_order" = some (.ref f) ∧ PySem.W.keepIn K (.ref f) = true ∧ FnOk P w K mg base CX0 2 f fd ["_law_script", "_law_many"] (spOrder K) ∧ Binds K fd ["_law_script", "_law_many"] []
  two : ∃ f fd, mg "_law_two" = some (.ref f) ∧ PySem.W.keepIn K (.ref f) = true ∧ FnOk P w K mg base CX0 3 f fd ["_law_script", "_law_order_here"] (spTwo K) ∧ Binds K fd ["_law_script", "_law_order_here"] []
  bet : ∃ f fd, mg "between" = some (.ref f) ∧ PySem.W.keepIn K (.ref f) = true ∧ FnOk P w K mg base CX0 3 f fd ["one", "other"] spBetw ∧ Binds K fd ["one", "other"] []
  rig : ∃ f fd, mg "_law_right" = some (.ref f) ∧ PySem.W.keepIn K (.ref f) = true ∧ FnOk P w K mg base CX0 3 f fd psR spRight ∧ Binds K fd psR []
def spLaw (K : PySem.W.Frag) : Sp := fun vs H Q _ => ∃ (a : Addr) (ns : List Int), vs = [.ref a] ∧ SqL K H a (ns.map V.int) ∧ ns.length ≤ 63 ∧ ∀ H', Q (.bl true) H'
abbrev nmL : List Str := ["_law_script", "_law_head", "_law_many", "_law_one", "_law_other", "_law_handed", "_law_found", "_law_told"]
theorem scLaw : FnScope nmL ["_law_script"] (defScope sLaw) := ⟨rfl, rfl, rfl, by decide +kernel, rfl, by decide +kernel, by decide +kernel⟩
abbrev XL (P : Program) (w : World) (K : PySem.W.Frag) (mg : Str → Option Value) (base : Heap) (f : Addr) (cdv : Value) (A : Around) (outer : List Env) (s : Shared) (H : Hp) (E : XK) : Cx := (cxOf CX0 P w K mg base nmL "law" (defScope sLaw) f cdv A outer s H E).nox
abbrev lawAt (i : Nat) : Stmt := (defBody sLaw).getD i (.Pass ⟨0, 0, 0, 0⟩)
theorem dif_self (O : List (List Int)) : Bt.dif O O = [] := by
  unfold Bt.dif Bt.onl
  have : O.filter (fun t => !decide (t ∈ O)) = [] := by
    rw [List.filter_eq_nil_iff]
    intro t ht
    simp [ht]
  rw [this]
  rfl
theorem found_nil {D : List (List Int)} {F : List (Bool × List Int)} (h : Bt.Found D F) (p : (F.flatMap Bt.alg).Perm []) : F = [] := by
  cases F with
  | nil => rfl
  | cons k F =>
    exfalso
    have h1 := pts_alg (F := k :: F) h.wh
    rw [p.length_eq, List.flatMap_cons, List.length_append] at h1
    have h2 := whole_two (h.wh k (.head _))
    have h1 : k.2.length + (F.flatMap (·.2)).length ≤ 2 * 0 := h1
    omega
section
variable {f : Addr} {cdv : Value} {A : Around} {outer : List Env} {s : Shared} {H : Hp} {E : XK}
/-- how many points -/
def tMany : TS := fun D σ H => ∃ h n : Int, σ[1]? = some (some (.int h)) ∧ σ[2]? = some (some (.int n)) ∧ 1 ≤ n ∧ n ≤ 24 ∧ ∀ n' : Int, 1 ≤ n' → n' ≤ 24 → D.nx (σ.set 2 (some (.int n'))) H
theorem ok_many : PS (XL P w K mg base f cdv A outer s H E) (lawAt 2) tMany := by
  refine' PS.imp (t' := tMany) (ps_if (pt_cmpR op_eq (pe_op op_mod (pe_op op_fdiv (pv 1) pe_int) pe_int) pe_int (nomark _)) (pss_one (ps_set (i := 2) scLaw.nd rfl (Or.inl rfl) (pe_op op_add pe_int (pe_op op_mod (pe_op op_fdiv (pv 1) pe_int) pe_int)))) pss_nil) ?_
  rintro D σ H1 ⟨h, n, e1, e2, n1, n2, k⟩
  refine ⟨_, e1, _, _, rfl, rfl, ⟨by decide, by decide⟩, _, _, rfl, rfl, (by show (0 : Int) < 7; decide), rfl, _, rfl, ?_⟩
  refine ite2 (fun _ => ?_) (fun _ => ?_)
  · refine ⟨_, e1, _, _, rfl, rfl, ⟨by decide, by decide⟩, _, _, rfl, rfl, (by show (0 : Int) < 12; decide), _, _, rfl, rfl, ?_⟩
    have a0 := Int.emod_nonneg (h / 40000) (show (12 : Int) ≠ 0 by decide)
    have a1 := Int.emod_lt_of_pos (h / 40000) (show (0 : Int) < 12 by decide)
    exact k _ (by show 1 ≤ 13 + h / 40000 % 12; omega) (by show 13 + h / 40000 % 12 ≤ 24; omega)
  · have := k n n1 n2
    rw [set_self e2] at this
    exact this
/-- what was told is emptied -/
def tClear : TS := fun D σ H => ∃ (lf : Addr) (fs : List Addr) (HB : Hp) (e7 : Option V), σ[6]? = some (some (.ref lf)) ∧ σ[7]? = some e7 ∧ H lf = some (.lst (fs.map V.ref)) ∧ Same HB H ∧ (∀ g ∈ fs, ∃ (r : V) (m : Addr) (xs : List V), H g = some (.tup [r, .ref m]) ∧ H m = some (.lst xs) ∧ HB m = none ∧ m ≠ lf) ∧
  ∀ (e7 : Option V) (H' : Hp), Same HB H' → H' lf = some (.lst (fs.map V.ref)) → D.nx (σ.set 7 e7) H'
theorem ok_clear : PS (XL P w K mg base f cdv A outer s H E) (lawAt 7) tClear := by
  refine' PS.imp (t' := tClear) (ps_for ?qa ?qb ?qc ?qd (pss_one ?b0)) ?_
  case qa => exact PassesOwn.never
  case qb => exact rfl
  case qc => exact pi_list (pv 6)
  case qd => exact pg_name (i := 7) scLaw.nd rfl (Or.inl rfl)
  case b0 => exact ps_expr (pe_bm0 PySem.F.plainAttrs_list PySem.F.slot_list_clear PySem.F.type_list_clear mt_clear (pe_ix ix_tup (pv 7) pe_int (fun _ _ => rfl)))
  rintro D σ H1 ⟨lf, fs, HB, e7, i6, i7, hf, sB, hg, k⟩
  have l7 : 7 < σ.length := (List.getElem?_eq_some_iff.mp i7).1
  refine ⟨_, i6, lf, rfl, ⟨_, SqL.of hf⟩, for_list (K := K) (a := lf) (xs := fs.map V.ref)
    (fun i σ' H2 => ∃ e7 : Option V, σ' = σ.set 7 e7 ∧ Same HB H2 ∧ H2 lf = some (.lst (fs.map V.ref)) ∧ ∀ g ∈ fs, ∃ (r : V) (m : Addr) (xs : List V), H2 g = some (.tup [r, .ref m]) ∧ H2 m = some (.lst xs) ∧ HB m = none ∧ m ≠ lf)
    ⟨e7, (set_self i7).symm, sB, hf, hg⟩ (fun i σ' H2 _ ⟨_, _, _, h, _⟩ => SqL.of h) ?_ ?_⟩
  · rintro i x σ' H2 hi ⟨e, rfl, s2, hf2, hg2⟩
    rw [List.getElem?_map] at hi
    obtain ⟨g, eg, rfl⟩ := Option.map_eq_some_iff.mp hi
    obtain ⟨r, m, xs, h1, h2, h3, h4⟩ := hg2 g (List.mem_of_getElem? eg)
    have g1 : atI [r, V.ref m] 1 = some (.ref m) := rfl
    unfold gName
    rw [List.set_set]
    refine ⟨_, by rw [List.getElem?_set, if_pos rfl, if_pos l7], g, _, _, _, rfl, rfl, SqT.of h1, g1, .inl ⟨rfl, _, SqL.of h2⟩, m, xs, rfl, rfl, h2, ?_⟩
    refine ⟨_, rfl, fun b o e => ?_, ?_, fun g' hg' => ?_⟩
    · rw [upd_ne (ne_of_none e h3)]; exact s2 b o e
    · rw [upd_ne (Ne.symm h4)]; exact hf2
    · obtain ⟨r', m', xs', q1, q2, q3, q4⟩ := hg2 g' hg'
      have ng : g' ≠ m := fun z => by rw [z, h2] at q1; cases q1
      by_cases c : m' = m
      · subst c
        exact ⟨r', m', [], by rw [upd_ne ng]; exact q1, upd_same, q3, q4⟩
      · exact ⟨r', m', xs', by rw [upd_ne ng]; exact q1, by rw [upd_ne c]; exact q2, q3, q4⟩
  · rintro σ' H2 ⟨e, rfl, s2, hf2, _⟩
    exact k e H2 s2 hf2
end
theorem ok_law {f : Addr} {fd : FuncData} (F : Fun K "law" "law" sLaw f fd) (G : CallsL P w K mg base) : FnOk P w K mg base CX0 4 f fd ["_law_script"] (spLaw K) := by
  obtain ⟨f1, fd1, m1, k1, G1, b1⟩ := G.cel
  obtain ⟨f2, fd2, m2, k2, G2, b2⟩ := G.ord
  obtain ⟨f3, fd3, m3, k3, G3, b3⟩ := G.two
  obtain ⟨f4, fd4, m4, k4, G4, b4⟩ := G.bet
  obtain ⟨f5, fd5, m5, k5, G5, b5⟩ := G.rig
  refine F.ok scLaw (fun vs H Q E h => ?_) (fun cdv A outer s H vs Q E hr h => ?_)
  · obtain ⟨a, ns, rfl, _⟩ := h
    rfl
  · obtain ⟨a, ns, rfl, hS, hns, hQ⟩ := h
    have hu2 : (XL P w K mg base f cdv A outer s H E).A.units + 2 < cLine := by have := hr.un; show (A.deeper _).units + 2 < cLine; omega
    have hu0 : (XL P w K mg base f cdv A outer s H E).A.units < cLine := by omega
    have hr1 : Room 1 (XL P w K mg base f cdv A outer s H E).A := hr.mono (by decide)
    have hr2 : Room 2 (XL P w K mg base f cdv A outer s H E).A := hr.mono (by decide)
    have hr3 : Room 3 (XL P w K mg base f cdv A outer s H E).A := hr
    refine' ⟨_, pss_cons ?s0 (pss_cons ?s1 (pss_cons ok_many (pss_cons ?s3 (pss_cons ?s4 (pss_cons ?s5 (pss_cons ?s6 (pss_cons ok_clear (pss_cons ?s8 (pss_cons ?s9 (pss_one ?s10)))))))))), ?_⟩
    case s0 => exact ps_set (i := 1) scLaw.nd rfl (Or.inl rfl) (pe_op op_mod (pe_op op_mul (pe_op op_add (pe_call G1 hr1 (by rfl) m1 k1 b1 .nil pass0 (pa_cons (pv 0) (pa_cons pe_int pa_nil))) pe_int) pe_int) pe_int)
    case s1 => exact ps_set (i := 2) scLaw.nd rfl (Or.inl rfl) (pe_op op_add pe_int (pe_op op_mod (pv 1) pe_int))
    case s3 => exact ps_asg (pe_call G3 hr3 (by rfl) m3 k3 b3 .nil pass0 (pa_cons (pv 0) (pa_cons (pe_call G2 hr2 (by rfl) m2 k2 b2 .nil pass0 (pa_cons (pv 0) (pa_cons (pv 2) pa_nil))) pa_nil))) (pg_tup rfl (pgs_cons (pg_name (i := 3) scLaw.nd rfl (Or.inl rfl)) (pgs_cons (pg_name (i := 4) scLaw.nd rfl (Or.inl rfl)) pgs_nil)))
    case s4 => exact ps_set (i := 5) scLaw.nd rfl (Or.inl rfl) (pe_lst (pa_cons (pe_callTy call_list_of (by rfl) G.lst boot_list (pa_cons (pv 3) pa_nil)) (pa_cons (pe_callTy call_list_of (by rfl) G.lst boot_list (pa_cons (pv 4) pa_nil)) pa_nil)))
    case s5 => exact ps_set (i := 6) scLaw.nd rfl (Or.inl rfl) (pe_call G4 hr3 (by rfl) m4 k4 b4 .nil pass0 (pa_cons (pe_ix ix_list (pv 5) pe_int (fun _ _ => rfl)) (pa_cons (pe_ix ix_list (pv 5) pe_int (fun _ _ => rfl)) pa_nil)))
    case s6 => exact ps_if (pw_or (pt_not (pt_val (pe_call G5 hr3 (by rfl) m5 k5 b5 .nil pass0 (pa_cons (pv 6) (pa_cons (pv 3) (pa_cons (pv 4) pa_nil)))))) (pw_or1 (pt_cmpR (op_neI hu0) (pe_call G4 hr3 (by rfl) m4 k4 b4 .nil pass0 (pa_cons (pe_ix ix_list (pv 5) pe_int (fun _ _ => rfl)) (pa_cons (pe_ix ix_list (pv 5) pe_int (fun _ _ => rfl)) pa_nil))) (pe_lst pa_nil) (nomark _)))).pt (pss_one (ps_ret pe_bl)) pss_nil
    case s8 => exact ps_expr (pe_bm PySem.F.plainAttrs_list PySem.F.slot_list_append PySem.F.type_list_append mt_append (pv 6) (pa_cons pe_non pa_nil))
    case s9 => exact ps_if (pt_not (pt_val (pe_call G5 hr3 (by rfl) m5 k5 b5 .nil pass0 (pa_cons (pe_call G4 hr3 (by rfl) m4 k4 b4 .nil pass0 (pa_cons (pe_ix ix_list (pv 5) pe_int (fun _ _ => rfl)) (pa_cons (pe_ix ix_list (pv 5) pe_int (fun _ _ => rfl)) pa_nil))) (pa_cons (pv 3) (pa_cons (pv 4) pa_nil)))))) (pss_one (ps_ret pe_bl)) pss_nil
    case s10 => exact ps_ret (pe_and (pe_call G5 hr3 (by rfl) m5 k5 b5 .nil pass0 (pa_cons (pe_call G4 hr3 (by rfl) m4 k4 b4 .nil pass0 (pa_cons (pe_ix ix_list (pv 5) pe_int (fun _ _ => rfl)) (pa_cons (pe_ix ix_list (pv 5) pe_int (fun _ _ => rfl)) pa_nil))) (pa_cons (pv 3) (pa_cons (pv 4) pa_nil)))) (pe_one (pe_cmpR (op_eqTT hu2) (pv 5) (pe_lst (pa_cons (pv 3) (pa_cons (pv 4) pa_nil))) (nomark _))))
    refine ⟨_, rfl, a, ns, _, rfl, by decide, hS, fun c0 => ⟨_, _, rfl, rfl, _, _, rfl, rfl, .inr ⟨by decide, by decide⟩, _, _, rfl, rfl, (by show (0 : Int) < 2147483647; decide), ?_⟩⟩
    dsimp only [gName, List.set_cons_succ, List.set_cons_zero]
    generalize (c0 + 7) * 48271 % 2147483647 = hd
    refine ⟨_, rfl, _, _, rfl, rfl, (by show (0 : Int) < 12; decide), _, _, rfl, rfl, ?_⟩
    have n0 := Int.emod_nonneg hd (show (12 : Int) ≠ 0 by decide)
    have n1 := Int.emod_lt_of_pos hd (show (0 : Int) < 12 by decide)
    dsimp only [gName, List.set_cons_succ, List.set_cons_zero]
    refine ⟨hd, 1 + hd % 12, rfl, rfl, by omega, by omega, fun n q0 q1 => ?_⟩
    dsimp only [List.set_cons_succ, List.set_cons_zero]
    refine ⟨_, rfl, _, rfl, _, rfl, a, n, ns, rfl, hS, by omega, q1, fun lo o H1 _ s1 ho po => ?_⟩
    refine ⟨a, lo, ns, o, rfl, s1.seq hS, ho, po.nodup_iff.mpr (upto_nd _), by rw [po.length_eq, upto_len]; omega, fun p l1 l2 rs qs O T H2 s2 hp h1 h2 hO hT mO mT lO lT => ?_⟩
    refine ⟨p, _, rfl, SqT.of hp, rfl, _, _, rfl, _, _, rfl, rfl, ?_⟩
    dsimp only [gName, List.set_cons_succ, List.set_cons_zero]
    -- handed
    refine ⟨_, rfl, l1, _, rfl, .inl (SqL.of h1), fun h0 e0 => ?_⟩
    have s3 : Same H2 (upd H2 h0 (.lst (rs.map V.ref))) := Same.new' e0
    have g0 : upd H2 h0 (.lst (rs.map V.ref)) h0 = some (.lst (rs.map V.ref)) := upd_same
    generalize upd H2 h0 (.lst (rs.map V.ref)) = H3 at s3 g0 ⊢
    refine ⟨_, rfl, l2, _, rfl, .inl (SqL.of (s3 l2 _ h2)), fun h1' e1 => ?_⟩
    have s4 : Same H3 (upd H3 h1' (.lst (qs.map V.ref))) := Same.new' e1
    have g1 : upd H3 h1' (.lst (qs.map V.ref)) h1' = some (.lst (qs.map V.ref)) := upd_same
    generalize upd H3 h1' (.lst (qs.map V.ref)) = H4 at s4 g1 ⊢
    refine ⟨(by show 2 ≤ sizeLine; decide), fun lh e2 => ?_⟩
    have s5 : Same H4 (upd H4 lh (.lst [.ref h0, .ref h1'])) := Same.new' e2
    have gh : upd H4 lh (.lst [.ref h0, .ref h1']) lh = some (.lst [.ref h0, .ref h1']) := upd_same
    generalize upd H4 lh (.lst [.ref h0, .ref h1']) = HB at s5 gh ⊢
    have s25 := s3.trans (s4.trans s5)
    have g0 := (s4.trans s5) h0 _ g0
    have g1 := s5 h1' _ g1
    have h1 := s25 l1 _ h1
    have h2 := s25 l2 _ h2
    have hO := TupsH.sm hO s25
    have hT := TupsH.sm hT s25
    dsimp only [gName, List.set_cons_succ, List.set_cons_zero]
    have i0 : atI [V.ref h0, V.ref h1'] 0 = some (.ref h0) := rfl
    have i1 : atI [V.ref h0, V.ref h1'] 1 = some (.ref h1') := rfl
    -- found
    refine ⟨_, rfl, lh, _, _, _, rfl, rfl, SqL.of gh, i0, _, rfl, lh, _, _, _, rfl, rfl, SqL.of gh, i1, h0, h1', rs, qs, O, T, rfl, g0, g1, hO, hT, mO, mT, by omega, by omega, fun lf fs R H5 nf s5 hf hF fnd pm lR => ?_⟩
    dsimp only [gName, List.set_cons_succ, List.set_cons_zero]
    refine ⟨_, rfl, _, rfl, _, rfl, lf, l1, l2, fs, rs, qs, HB, R, _, O, T, rfl, hf, hF, fnd, pm, s5 _ _ h1, s5 _ _ h2, TupsH.sm hO s5, TupsH.sm hT s5, by omega, by omega, fun H6 s6 => ⟨true, rfl, iteF ?_⟩⟩
    have s06 := s5.trans s6
    refine ⟨_, rfl, lh, _, _, _, rfl, rfl, SqL.of (s06 _ _ gh), i0, _, rfl, lh, _, _, _, rfl, rfl, SqL.of (s06 _ _ gh), i0, h0, h0, rs, rs, O, O, rfl, s06 _ _ g0, s06 _ _ g0, TupsH.sm hO s06, TupsH.sm hO s06, mO, mO, by omega, by omega, fun le es R0 H7 _ s7 he hE fnd0 pm0 _ => ?_⟩
    rw [dif_self] at fnd0 pm0
    have eR := found_nil fnd0 pm0
    subst eR
    have ee : es = [] := List.length_eq_zero_iff.mp (Paired.length hE)
    subst ee
    refine ⟨Nat.zero_le _, fun l8 n8 => ?_⟩
    have s8 : Same H7 (upd H7 l8 (.lst [])) := Same.new' n8
    refine ⟨le, l8, [], [], rfl, rfl, SqL.of (s8 le _ he), SqL.of upd_same, _, rfl, iteNS rfl ?_⟩
    generalize upd H7 l8 (.lst []) = H8 at s8 ⊢
    have s58 := s6.trans (s7.trans s8)
    have sB8 := s5.trans s58
    -- emptied
    refine ⟨lf, fs, HB, _, rfl, rfl, s58 _ _ hf, sB8, fun g hg => ?_, fun e7 H9 s9 hf9 => ?_⟩
    · obtain ⟨i, hi, e⟩ := List.getElem_of_mem hg
      obtain ⟨j, ej, m, q1, q2, q3⟩ := Sx.pair_at (i := i) (a := g) hF (by rw [← e]; simp [hi])
      refine ⟨_, m, _, s58 _ _ q1, s58 _ _ q2, q3, fun z => ?_⟩
      subst z
      rw [hf] at q2
      have ne := whole_ne (fnd.wh j (List.mem_of_getElem? ej))
      injection q2 with q2
      injection q2 with q2
      cases hj : j.2 with
      | nil => exact ne hj
      | cons x r =>
        rw [hj] at q2
        cases fs with
        | nil => cases q2
        | cons y fs => rw [List.map_cons, List.map_cons] at q2; injection q2 with q2 _; cases q2
    dsimp only [List.set_cons_succ, List.set_cons_zero]
    have lfs := Paired.length hF
    refine ⟨_, rfl, .inl ⟨rfl, _, SqL.of hf9⟩, lf, _, _, rfl, rfl, hf9, small1000 (by rw [List.length_map]; omega), ?_⟩
    have s10 : Same HB (upd H9 lf (.lst (fs.map V.ref ++ [.non]))) := fun b o e => by rw [upd_ne (ne_of_none e nf)]; exact s9 b o e
    generalize upd H9 lf (.lst (fs.map V.ref ++ [.non])) = H10 at s10 ⊢
    -- the other way
    refine ⟨_, rfl, lh, _, _, _, rfl, rfl, SqL.of (s10 _ _ gh), i1, _, rfl, lh, _, _, _, rfl, rfl, SqL.of (s10 _ _ gh), i0, h1', h0, qs, rs, T, O, rfl, s10 _ _ g1, s10 _ _ g0, TupsH.sm hT s10, TupsH.sm hO s10, mT, mO, by omega, by omega, fun lf2 fs2 R2 H11 _ s11 hf2 hF2 fnd2 pm2 _ => ?_⟩
    have s0b := s10.trans s11
    have pm2' : (R2.flatMap Bt.alg).Perm (Bt.dif O T) := pm2.trans List.perm_append_comm
    refine ⟨_, rfl, _, rfl, lf2, l1, l2, fs2, rs, qs, H10, R2, _, O, T, rfl, hf2, hF2, fnd2, pm2', s0b _ _ h1, s0b _ _ h2, TupsH.sm hO s0b, TupsH.sm hT s0b, by omega, by omega, fun H12 s12 => ⟨true, rfl, iteF ?_⟩⟩
    have s0c := s0b.trans s12
    -- once more
    refine ⟨_, rfl, lh, _, _, _, rfl, rfl, SqL.of (s0c _ _ gh), i0, _, rfl, lh, _, _, _, rfl, rfl, SqL.of (s0c _ _ gh), i1, h0, h1', rs, qs, O, T, rfl, s0c _ _ g0, s0c _ _ g1, TupsH.sm hO s0c, TupsH.sm hT s0c, mO, mT, by omega, by omega, fun lf3 fs3 R3 H13 _ s13 hf3 hF3 fnd3 pm3 _ => ?_⟩
    have s0d := s0c.trans s13
    refine ⟨_, rfl, _, rfl, lf3, l1, l2, fs3, rs, qs, H12, R3, _, O, T, rfl, hf3, hF3, fnd3, pm3, s0d _ _ h1, s0d _ _ h2, TupsH.sm hO s0d, TupsH.sm hT s0d, by omega, by omega, fun H14 s14 => ⟨true, rfl, iteT ?_⟩⟩
    have s0e := s0d.trans s14
    refine ⟨_, rfl, _, rfl, _, rfl, (by show 2 ≤ sizeLine; decide), fun lz nz => ?_⟩
    have s15 : Same H14 (upd H14 lz (.lst [.ref l1, .ref l2])) := Same.new' nz
    have s0f := s0e.trans s15
    exact ⟨lh, lz, h0, h1', l1, l2, rs, rs, qs, qs, O, T, rfl, rfl, SqL.of (s0f _ _ gh), SqL.of upd_same, SqL.of (s0f _ _ g0), SqL.of (s0f _ _ h1), TupsH.sm hO s0f, TupsH.sm hO s0f, SqL.of (s0f _ _ g1), SqL.of (s0f _ _ h2), TupsH.sm hT s0f, TupsH.sm hT s0f, hQ _⟩
end
end K25

/-! ### k25: all of it from the top -/
namespace K25
open PySem L2 PyProof.Rows
/-- a def of the top -/
def DefAt (K : PySem.W.Frag) (mg : Str → Option Value) (x : Str) (st : Stmt) : Prop := ∃ f fd, mg x = some (.ref f) ∧ Fun K x x st f fd
theorem def_mk {K : PySem.W.Frag} {mg : Str → Option Value} {h : Heap} {x : Str} {st : Stmt} {f : Addr} {oc : Value} {od an : Option Addr} {osl : Array (Option Value)} {kV doc pm cdv ct : Value} (X : K.In h) (G : h.Ns mainGlobals mg)
    (a : PySem.W.nsIn K mainGlobals x = some (some (.ref f))) (l : K.lookup f = some ⟨oc, od, .func (PySem.W.fnOf x x (defArgs st) (defBody st) (defScope st) .none kV doc pm an cdv ct), osl⟩)
    (c : PySem.W.codeIn K cdv x = true) (k : PySem.W.keepIn K (.ref f) = true) : DefAt K mg x st := ⟨f, _, PySem.W.mg_of X G a, fun_mk l c k⟩
theorem len0 {us : List Value} (h : us.length = 0) : us = [] := List.length_eq_zero_iff.mp h
theorem len1 {us : List Value} (h : us.length = 1) : ∃ a0, us = [a0] := by
  cases us with
  | nil => exact absurd h (by decide)
  | cons a t => exact ⟨a, by rw [len0 (Nat.succ.inj h)]⟩
theorem len2 {us : List Value} (h : us.length = 2) : ∃ a0 a1, us = [a0, a1] := by
  cases us with
  | nil => exact absurd h (Nat.succ_ne_zero _).symm
  | cons a t =>
    obtain ⟨b0, e⟩ := len1 (Nat.succ.inj h)
    exact ⟨a, b0, by rw [e]⟩
theorem len3 {us : List Value} (h : us.length = 3) : ∃ a0 a1 a2, us = [a0, a1, a2] := by
  cases us with
  | nil => exact absurd h (Nat.succ_ne_zero _).symm
  | cons a t =>
    obtain ⟨b0, b1, e⟩ := len2 (Nat.succ.inj h)
    exact ⟨a, b0, b1, by rw [e]⟩
theorem len4 {us : List Value} (h : us.length = 4) : ∃ a0 a1 a2 a3, us = [a0, a1, a2, a3] := by
  cases us with
  | nil => exact absurd h (Nat.succ_ne_zero _).symm
  | cons a t =>
    obtain ⟨b0, b1, b2, e⟩ := len3 (Nat.succ.inj h)
    exact ⟨a, b0, b1, b2, by rw [e]⟩
theorem calls_mk {P : Program} {w : World} {K : PySem.W.Frag} {mg : Str → Option Value} {base : Heap}
    (g_isinstance : mg "isinstance" = none) (g_int : mg "int" = none) (g_bool : mg "bool" = none) (g_list : mg "list" = none) (g_tuple : mg "tuple" = none) (g_min : mg "min" = none) (g_max : mg "max" = none) (g_len : mg "len" = none) (g_range : mg "range" = none) (g_all : mg "all" = none) (g_sorted : mg "sorted" = none) (g_set : mg "set" = none)
    (ii : PySem.W.kitOne K (.type "int") (.type "int") = some true) (ib : PySem.W.kitOne K (.type "int") (.type "bool") = some false) (ll : PySem.W.kitOne K (.type "list") (.type "list") = some true) (tt : PySem.W.kitOne K (.type "tuple") (.type "tuple") = some true)
    (d0 : DefAt K mg "only_in" sOnly) (d1 : DefAt K mg "neighbours_by" sNby) (d2 : DefAt K mg "followed" sFoll) (d3 : DefAt K mg "between" sBetw) (d4 : DefAt K mg "_law_cell_at" sCell) (d5 : DefAt K mg "_law_whole" sWhole) (d6 : DefAt K mg "_law_tie" sTie) (d7 : DefAt K mg "_law_order" sOrder) (d8 : DefAt K mg "_law_piece" sPiece) (d9 : DefAt K mg "_law_two" sTwo) (d10 : DefAt K mg "_law_along" sAlong) (d11 : DefAt K mg "_law_right" sRight) : CallsL P w K mg base := by
  obtain ⟨f0, fd0, m0, F0⟩ := d0
  obtain ⟨f1, fd1, m1, F1⟩ := d1
  obtain ⟨f2, fd2, m2, F2⟩ := d2
  obtain ⟨f3, fd3, m3, F3⟩ := d3
  obtain ⟨f4, fd4, m4, F4⟩ := d4
  obtain ⟨f5, fd5, m5, F5⟩ := d5
  obtain ⟨f6, fd6, m6, F6⟩ := d6
  obtain ⟨f7, fd7, m7, F7⟩ := d7
  obtain ⟨f8, fd8, m8, F8⟩ := d8
  obtain ⟨f9, fd9, m9, F9⟩ := d9
  obtain ⟨f10, fd10, m10, F10⟩ := d10
  obtain ⟨f11, fd11, m11, F11⟩ := d11
  have b0 := F0.binds (ps := ["one", "other"]) fun _ _ _ _ _ _ us hl => by obtain ⟨a0, a1, rfl⟩ := len2 hl; rfl
  have b1 := F1.binds (ps := ["ties"]) fun _ _ _ _ _ _ us hl => by obtain ⟨a0, rfl⟩ := len1 hl; rfl
  have b2 := F2.binds (ps := ["neighbours", "start"]) fun _ _ _ _ _ _ us hl => by obtain ⟨a0, a1, rfl⟩ := len2 hl; rfl
  have b3 := F3.binds (ps := ["one", "other"]) fun _ _ _ _ _ _ us hl => by obtain ⟨a0, a1, rfl⟩ := len2 hl; rfl
  have b4 := F4.binds (ps := ["_law_script", "_law_k"]) fun _ _ _ _ _ _ us hl => by obtain ⟨a0, a1, rfl⟩ := len2 hl; rfl
  have b5 := F5.binds (ps := ["_law_found"]) fun _ _ _ _ _ _ us hl => by obtain ⟨a0, rfl⟩ := len1 hl; rfl
  have b6 := F6.binds (ps := ["_law_a", "_law_b"]) fun _ _ _ _ _ _ us hl => by obtain ⟨a0, a1, rfl⟩ := len2 hl; rfl
  have b7 := F7.binds (ps := ["_law_script", "_law_many"]) fun _ _ _ _ _ _ us hl => by obtain ⟨a0, a1, rfl⟩ := len2 hl; rfl
  have b8 := F8.binds (ps := ["_law_one", "_law_other", "_law_piece_here", "_law_kind"]) fun _ _ _ _ _ _ us hl => by obtain ⟨a0, a1, a2, a3, rfl⟩ := len4 hl; rfl
  have b9 := F9.binds (ps := ["_law_script", "_law_order_here"]) fun _ _ _ _ _ _ us hl => by obtain ⟨a0, a1, rfl⟩ := len2 hl; rfl
  have b10 := F10.binds (ps := ["_law_told"]) fun _ _ _ _ _ _ us hl => by obtain ⟨a0, rfl⟩ := len1 hl; rfl
  have b11 := F11.binds (ps := ["_law_found", "_law_one", "_law_other"]) fun _ _ _ _ _ _ us hl => by obtain ⟨a0, a1, a2, rfl⟩ := len3 hl; rfl
  have kit : Kit K mg := ⟨ii, ib, ll, tt, g_isinstance, g_int, g_bool, g_list, g_tuple⟩
  have G0 := ok_only (P := P) (w := w) (mg := mg) (base := base) F0
  have G1 := ok_nby (P := P) (w := w) (mg := mg) (base := base) F1
  have G2 := ok_foll (P := P) (w := w) (mg := mg) (base := base) F2 G0 m0 F0.kp b0
  have G3 := ok_betw (P := P) (w := w) (mg := mg) (base := base) F3 g_sorted g_len G0 m0 F0.kp b0 G1 m1 F1.kp b1 G2 m2 F2.kp b2
  have G4 := ok_cell (P := P) (w := w) (mg := mg) (base := base) F4 g_len
  have G5 := ok_whole (P := P) (w := w) (mg := mg) (base := base) F5 kit
  have G6 := ok_tie (P := P) (w := w) (mg := mg) (base := base) F6 g_min g_max
  have G7 := ok_order (P := P) (w := w) (mg := mg) (base := base) F7 g_range G4 m4 F4.kp b4
  have G8 := ok_piece (P := P) (w := w) (mg := mg) (base := base) F8 g_range g_len G6 m6 F6.kp b6
  have G9 := ok_two (P := P) (w := w) (mg := mg) (base := base) F9 g_len g_sorted G4 m4 F4.kp b4 G8 m8 F8.kp b8
  have G10 := ok_along (P := P) (w := w) (mg := mg) (base := base) F10 kit g_range g_len g_all G6 m6 F6.kp b6 G5 m5 F5.kp b5
  have G11 := ok_right (P := P) (w := w) (mg := mg) (base := base) F11 kit g_len g_set g_sorted G10 m10 F10.kp b10
  exact ⟨g_list, ⟨f4, fd4, m4, F4.kp, G4, b4⟩, ⟨f7, fd7, m7, F7.kp, G7, b7⟩, ⟨f9, fd9, m9, F9.kp, G9, b9⟩, ⟨f3, fd3, m3, F3.kp, G3, b3⟩, ⟨f11, fd11, m11, F11.kp, G11, b11⟩⟩
theorem law_mk {P : Program} {w : World} {K : PySem.W.Frag} {mg : Str → Option Value} {fa : Addr} (hmg : mg "law" = some (.ref fa)) (d : DefAt K mg "law" sLaw) (G : ∀ base : Heap, CallsL P w K mg base) :
    ∃ fd : FuncData, (∀ (s : Shared) (u : Value), BindsTo s fd ⟨[u], []⟩ [("_law_script", u)]) ∧ ∀ base : Heap, K.In base → base.Ns mainGlobals mg → FnOk P w K mg base CX0 4 fa fd ["_law_script"] (spLaw K) := by
  obtain ⟨f, fd, m, F⟩ := d
  cases hmg.symm.trans m
  obtain ⟨oc, od, kV, doc, pm, an, cdv, ct, osl, rfl, l, c⟩ := F.ex
  exact ⟨_, fun s u => .of_eq rfl, fun base _ _ => ok_law F (G base)⟩
theorem all_mk {P : Program} {w : World} {K : PySem.W.Frag} {mg : Str → Option Value} {h : Heap} {fa : Addr} (X : K.In h) (G : h.Ns mainGlobals mg) (hmg : mg "law" = some (.ref fa))
    (z0 : PySem.W.nsIn K mainGlobals "isinstance" = some none) (z1 : PySem.W.nsIn K mainGlobals "int" = some none) (z2 : PySem.W.nsIn K mainGlobals "bool" = some none) (z3 : PySem.W.nsIn K mainGlobals "list" = some none) (z4 : PySem.W.nsIn K mainGlobals "tuple" = some none) (z5 : PySem.W.nsIn K mainGlobals "min" = some none) (z6 : PySem.W.nsIn K mainGlobals "max" = some none) (z7 : PySem.W.nsIn K mainGlobals "len" = some none) (z8 : PySem.W.nsIn K mainGlobals "range" = some none) (z9 : PySem.W.nsIn K mainGlobals "all" = some none) (z10 : PySem.W.nsIn K mainGlobals "sorted" = some none) (z11 : PySem.W.nsIn K mainGlobals "set" = some none)
    (ii : PySem.W.kitOne K (.type "int") (.type "int") = some true) (ib : PySem.W.kitOne K (.type "int") (.type "bool") = some false) (ll : PySem.W.kitOne K (.type "list") (.type "list") = some true) (tt : PySem.W.kitOne K (.type "tuple") (.type "tuple") = some true)
    (d0 : DefAt K mg "only_in" sOnly) (d1 : DefAt K mg "neighbours_by" sNby) (d2 : DefAt K mg "followed" sFoll) (d3 : DefAt K mg "between" sBetw) (d4 : DefAt K mg "_law_cell_at" sCell) (d5 : DefAt K mg "_law_whole" sWhole) (d6 : DefAt K mg "_law_tie" sTie) (d7 : DefAt K mg "_law_order" sOrder) (d8 : DefAt K mg "_law_piece" sPiece) (d9 : DefAt K mg "_law_two" sTwo) (d10 : DefAt K mg "_law_along" sAlong) (d11 : DefAt K mg "_law_right" sRight) (dL : DefAt K mg "law" sLaw) :
    ∃ fd : FuncData, (∀ (s : Shared) (u : Value), BindsTo s fd ⟨[u], []⟩ [("_law_script", u)]) ∧ ∀ base : Heap, K.In base → base.Ns mainGlobals mg → FnOk P w K mg base CX0 4 fa fd ["_law_script"] (spLaw K) := by
  have z := fun {x : Str} (e : PySem.W.nsIn K mainGlobals x = some none) => PySem.W.mg_none_of X G e
  refine law_mk hmg dL fun base => ?_
  exact calls_mk (z z0) (z z1) (z z2) (z z3) (z z4) (z z5) (z z6) (z z7) (z z8) (z z9) (z z10) (z z11) ii ib ll tt d0 d1 d2 d3 d4 d5 d6 d7 d8 d9 d10 d11 
theorem walk {l : PySem.W.OpenLaw} {q : Program} {loose : List Str} {XP : (Str → Option Value) → Heap → Prop} {YP : World → Heap → Prop} {d : DefRec} {K : Params → PySem.W.Frag} (hn : l.most = some 63) (hdf : d.params.defaults = [])
    (hY : ∀ (w : World) (h : Heap), YP w h → (K w.params).In h)
    (F : ∀ (w : World) (mg : Str → Option Value) (fa : Addr) (h : Heap), (K w.params).In h → h.Ns mainGlobals mg → mg d.name = some (.ref fa) →
      ∃ fd : FuncData, (∀ (s : Shared) (u : Value), BindsTo s fd ⟨[u], []⟩ [("_law_script", u)]) ∧ ∀ base : Heap, (K w.params).In base → base.Ns mainGlobals mg → FnOk l.prog w (K w.params) mg base CX0 4 fa fd ["_law_script"] (spLaw (K w.params))) :
    PySem.W.WalkO q loose XP YP l.row.toRowW d [] (fun f vs => PySem.call f vs) :=
  L2.walk_of (n := 63) (k := 4) (x := "_law_script") (CX := fun _ => CX0) (sp := fun w => spLaw (K w.params)) hn (by decide) hdf ⟨rfl, by decide, by decide⟩ hY F (fun _ _ a ns hl _ hS => ⟨a, ns, rfl, hS, hl, fun _ => rfl⟩) fun _ _ _ _ _ z => z
end K25

open PySem PySem.W PyProof.Rows
set_option maxRecDepth 100000 in
set_option maxHeartbeats 0 in
theorem PySem.Challenge.cw_pairsheath_k25_between_two_choices_holds : PySem.Challenge.rw_pairsheath_k25_between_two_choices.Holds := by
  w_on; o_law; k_head; (case hw => w_witness2)
  k_fill
  refine K25.walk (l := PySem.Challenge.rw_pairsheath_k25_between_two_choices) rfl rfl (fun w h Y => PySem.W.kIn_of Y) ?F
  case F =>
    intro w mg fa h KX G hmg
    refine' K25.all_mk KX G hmg ?z0 ?z1 ?z2 ?z3 ?z4 ?z5 ?z6 ?z7 ?z8 ?z9 ?z10 ?z11 ?ii ?ib ?ll ?tt ?d0 ?d1 ?d2 ?d3 ?d4 ?d5 ?d6 ?d7 ?d8 ?d9 ?d10 ?d11 ?dL
    (case z0 => k_is)
    (case z1 => k_is)
    (case z2 => k_is)
    (case z3 => k_is)
    (case z4 => k_is)
    (case z5 => k_is)
    (case z6 => k_is)
    (case z7 => k_is)
    (case z8 => k_is)
    (case z9 => k_is)
    (case z10 => k_is)
    (case z11 => k_is)
    (case ii => kit_is)
    (case ib => kit_is)
    (case ll => kit_is)
    (case tt => kit_is)
    (case d0 => refine' K25.def_mk KX G ?a ?l ?c ?k; (case a => k_is); (case l => k_is); (case c => k_is); (case k => k_is))
    (case d1 => refine' K25.def_mk KX G ?a ?l ?c ?k; (case a => k_is); (case l => k_is); (case c => k_is); (case k => k_is))
    (case d2 => refine' K25.def_mk KX G ?a ?l ?c ?k; (case a => k_is); (case l => k_is); (case c => k_is); (case k => k_is))
    (case d3 => refine' K25.def_mk KX G ?a ?l ?c ?k; (case a => k_is); (case l => k_is); (case c => k_is); (case k => k_is))
    (case d4 => refine' K25.def_mk KX G ?a ?l ?c ?k; (case a => k_is); (case l => k_is); (case c => k_is); (case k => k_is))
    (case d5 => refine' K25.def_mk KX G ?a ?l ?c ?k; (case a => k_is); (case l => k_is); (case c => k_is); (case k => k_is))
    (case d6 => refine' K25.def_mk KX G ?a ?l ?c ?k; (case a => k_is); (case l => k_is); (case c => k_is); (case k => k_is))
    (case d7 => refine' K25.def_mk KX G ?a ?l ?c ?k; (case a => k_is); (case l => k_is); (case c => k_is); (case k => k_is))
    (case d8 => refine' K25.def_mk KX G ?a ?l ?c ?k; (case a => k_is); (case l => k_is); (case c => k_is); (case k => k_is))
    (case d9 => refine' K25.def_mk KX G ?a ?l ?c ?k; (case a => k_is); (case l => k_is); (case c => k_is); (case k => k_is))
    (case d10 => refine' K25.def_mk KX G ?a ?l ?c ?k; (case a => k_is); (case l => k_is); (case c => k_is); (case k => k_is))
    (case d11 => refine' K25.def_mk KX G ?a ?l ?c ?k; (case a => k_is); (case l => k_is); (case c => k_is); (case k => k_is))
    (case dL => refine' K25.def_mk KX G ?a ?l ?c ?k; (case a => k_is); (case l => k_is); (case c => k_is); (case k => k_is))
