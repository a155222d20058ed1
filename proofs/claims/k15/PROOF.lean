import PyProof.Rows.All
import Wide.All
import OpenK.AllK
import Wide.FinOn
import Lean
import PyProof.EqAt
import PyProof.EqKinds
import PyProof.TupleCall
import PySem.Challenge.RW_pairsheath_k15_worth_left_partner
set_option Elab.async false
set_option linter.all false
set_option maxRecDepth 100000
/-! THE HAND LAYER, for ints, bools, texts, own classes, LISTS and tuples (index, slices, in, append, pop ..), calls, loops. Paste it whole ahead of your own text; what your proof does not reach may be deleted. -/
namespace L2
open PySem PySem.Spec PyProof.Rows

/-- a key: an int or a str -/
abbrev Key := Sum Int Str
def keyIs : Key → Value → Bool
  | .inl k, v => Value.isInt k v
  | .inr x, v => Value.isStrOf x v
def keyH (w : World) : Key → Int
  | .inl k => hashInt k
  | .inr x => hashStr w x
theorem keyIs_shape : ∀ {k : Key} {v : Value}, keyIs k v = true → (∃ i t, k = Sum.inl i ∧ v = Value.int i t) ∨ (∃ x t, k = Sum.inr x ∧ v = Value.str x t)
  | .inl i, v, h => by
    obtain ⟨t, e⟩ := Value.isInt_shape (k := i) (v := v) h
    exact .inl ⟨i, t, rfl, e⟩
  | .inr x, v, h => by
    obtain ⟨t, e⟩ := Value.isStrOf_shape (x := x) (v := v) h
    exact .inr ⟨x, t, rfl, e⟩
theorem keyIs_int (i : Int) (t : Tok) : keyIs (.inl i) (.int i t) = true := by simp [keyIs, Value.isInt]
theorem keyIs_str (x : Str) (t : Tok) : keyIs (.inr x) (.str x t) = true := by simp [keyIs, Value.isStrOf]
theorem key_ll (a b : Int) : decide ((Sum.inl a : Key) = Sum.inl b) = (a == b) := by
  by_cases e : a = b
  · subst e; simp
  · have h : ¬ (Sum.inl a : Key) = Sum.inl b := fun q => e (Sum.inl.inj q)
    rw [decide_eq_false h]
    exact (beq_eq_false_iff_ne.mpr e).symm
theorem key_rr (a b : Str) : decide ((Sum.inr a : Key) = Sum.inr b) = decide (a = b) := by
  by_cases e : a = b
  · subst e; simp
  · have h : ¬ (Sum.inr a : Key) = Sum.inr b := fun q => e (Sum.inr.inj q)
    rw [decide_eq_false h, decide_eq_false e]
theorem key_lr (a : Int) (b : Str) : decide ((Sum.inl a : Key) = Sum.inr b) = false := decide_eq_false (fun q => nomatch q)
theorem key_rl (a : Str) (b : Int) : decide ((Sum.inr a : Key) = Sum.inl b) = false := decide_eq_false (fun q => nomatch q)

def mixKind (prog : Program) (w : World) : PySem.KeyKind prog w Key where
  is := keyIs
  hash := keyH w
  inj := fun v a b ha hb => by
    rcases keyIs_shape ha with ⟨i, t, rfl, rfl⟩ | ⟨x, t, rfl, rfl⟩
    · rcases keyIs_shape hb with ⟨j, u, rfl, e⟩ | ⟨y, u, rfl, e⟩
      · injection e with e1 _; rw [e1]
      · exact nomatch e
    · rcases keyIs_shape hb with ⟨j, u, rfl, e⟩ | ⟨y, u, rfl, e⟩
      · exact nomatch e
      · injection e with e1 _; rw [e1]
  byValue := fun k v h => by
    rcases keyIs_shape h with ⟨i, t, rfl, rfl⟩ | ⟨x, t, rfl, rfl⟩ <;> rfl
  pyHash := fun hv h => by
    rcases keyIs_shape hv with ⟨i, t, rfl, rfl⟩ | ⟨x, t, rfl, rfl⟩
    · exact wpAny_pyHash_int h
    · exact wpAny_pyHash_str h
  eqBool := fun hu hv h => by
    rcases keyIs_shape hu with ⟨i, t, rfl, rfl⟩ | ⟨x, t, rfl, rfl⟩
    · rcases keyIs_shape hv with ⟨j, u, rfl, rfl⟩ | ⟨y, u, rfl, rfl⟩
      · rw [key_ll] at h; exact wpAny_eqBool_int h
      · rw [key_lr] at h; exact SeqAt.EqAt.int_str i t y u _ _ _ _ h
    · rcases keyIs_shape hv with ⟨j, u, rfl, rfl⟩ | ⟨y, u, rfl, rfl⟩
      · rw [key_rl] at h; exact SeqAt.EqAt.str_int x t j u _ _ _ _ h
      · rw [key_rr] at h; exact wpAny_eqBool_str h
  «strs» := fun k x t v h => by
    rcases keyIs_shape h with ⟨i, u, rfl, e⟩ | ⟨y, u, rfl, e⟩
    · exact nomatch e
    · injection e with e1 _
      subst e1
      cases v <;> rfl

theorem mixKind_int (prog : Program) (w : World) (i : Int) (t : Tok) : (mixKind prog w).is (.inl i) (.int i t) = true := keyIs_int i t
theorem mixKind_str (prog : Program) (w : World) (x : Str) (t : Tok) : (mixKind prog w).is (.inr x) (.str x t) = true := keyIs_str x t
end L2

namespace L2
open PySem PySem.Spec PyProof.Rows

/-- a value, without the heap -/
inductive V where
  | non | bl (b : Bool) | int (i : Int) | str (x : Str) | byt (b : Array UInt8) | flt (b : UInt64) | ref (a : Addr) | ty (n : String)
  deriving DecidableEq

def RelV : V → Value → Prop
  | .non, u => u = Value.none
  | .bl b, u => u = Value.bool b
  | .int i, u => ∃ t, u = Value.int i t
  | .str x, u => ∃ t, u = Value.str x t
  | .byt b, u => ∃ t, u = Value.bytes b t
  | .flt b, u => ∃ t, u = Value.float b t
  | .ref a, u => u = Value.ref a
  | .ty n, u => u = Value.type n

abbrev Vals : List V → List Value → Prop := Paired RelV
theorem Vals.length {xs : List V} {us : List Value} (r : Vals xs us) : xs.length = us.length := Paired.length r
theorem Vals.get : ∀ {xs : List V} {us : List Value} {i : Nat} {x : V}, Vals xs us → xs[i]? = some x → ∃ u, us[i]? = some u ∧ RelV x u
  | _, _, _, _, .nil, e => by simp at e
  | _, _, 0, _, .cons r _, e => by simp at e; subst e; exact ⟨_, rfl, r⟩
  | _, _, i + 1, x, .cons _ t, e => by
    obtain ⟨u, h1, h2⟩ := Vals.get (i := i) (x := x) t (by simpa using e)
    exact ⟨u, by simpa using h1, h2⟩
theorem Vals.append : ∀ {xs ys : List V} {us ws : List Value}, Vals xs us → Vals ys ws → Vals (xs ++ ys) (us ++ ws)
  | _, _, _, _, .nil, s => s
  | _, _, _, _, .cons r t, s => .cons r (Vals.append t s)
theorem Vals.take : ∀ {xs : List V} {us : List Value} (n : Nat), Vals xs us → Vals (xs.take n) (us.take n)
  | _, _, 0, _ => .nil
  | _, _, _ + 1, .nil => .nil
  | _, _, n + 1, .cons r t => .cons r (Vals.take n t)
theorem Vals.drop : ∀ {xs : List V} {us : List Value} (n : Nat), Vals xs us → Vals (xs.drop n) (us.drop n)
  | _, _, 0, r => r
  | _, _, _ + 1, .nil => .nil
  | _, _, n + 1, .cons _ t => Vals.drop n t

def RelO : Option V → Option Value → Prop
  | some v, some u => RelV v u
  | none, none => True
  | _, _ => False
def KV {κ : Type} : List (κ × V) → List (κ × Value) → Prop := Paired fun (p : κ × V) (q : κ × Value) => p.1 = q.1 ∧ RelV p.2 q.2

/-- a key of a dict (00_mix): an int or a text -/
def kV : Key → V
  | .inl i => .int i
  | .inr x => .str x

/-- what stands at a tracked address -/
inductive HO where
  /-- a list -/
  | lst (xs : List V)
  /-- a tuple (never changes) -/
  | tup (xs : List V)
  /-- a dict whose keys are ints and texts; one whose keys are tuples of ints and texts (the empty one is both) -/
  | dK (kvs : List (Key × V)) | dT (kvs : List (List Key × V))
  /-- a set of ints: its members, its size -/
  | set (S : Int → Bool) (n : Nat)
  /-- an instance of the class at C, its dict at dx, its attributes -/
  | ins (C dx : Addr) (fs : List (Str × V))
  /-- the dict of the instance at x -/
  | own (x : Addr)
  /-- the dict of an exception -/
  | xd (fs : List (Str × V))
  /-- a bound method, f of x -/
  | met (f x : Addr)
  /-- a range object lo, lo + 1, .. below hi -/
  | rng (lo hi : Int)
  /-- a thing that is known to the object (the script; a dict while a loop walks it): read, never written while it is so -/
  | frz (o : Obj) (u : HO)
  /-- a code object's table -/
  | tbl (ps : Array Value)
  /-- any other thing, by what is true of its one object (a def of one's own: SetO a S n := HO.ext fun h => ..) -/
  | ext (φ : Heap → Prop)

abbrev Hp := Addr → Option HO
def upd (H : Hp) (a : Addr) (o : HO) : Hp := fun b => if b = a then some o else H b
theorem upd_same {H : Hp} {a : Addr} {o : HO} : upd H a o a = some o := by unfold upd; rw [if_pos rfl]
theorem upd_ne {H : Hp} {a b : Addr} {o : HO} (h : b ≠ a) : upd H a o b = H b := by unfold upd; rw [if_neg h]
theorem upd_upd {H : Hp} {a : Addr} {o u : HO} : upd (upd H a o) a u = upd H a u := by
  funext b; unfold upd; split <;> rfl
/-- two objects of different content stand apart -/
theorem ne_of {H : Hp} {a b : Addr} {o u : HO} (h : H a = some o) (h' : H b = some u) (d : o ≠ u) : a ≠ b := by
  intro e; subst e; rw [h] at h'; exact d (Option.some.inj h')
theorem ne_of_none {H : Hp} {a b : Addr} {o : HO} (h : H a = some o) (h' : H b = none) : a ≠ b := by
  intro e; subst e; rw [h] at h'; cases h'

section
variable (P : Program) (w : World)
def ObjOk (H : Hp) (h : Heap) (a : Addr) : HO → Prop
  | .lst xs => xs.length ≤ sizeLine ∧ ∃ (its : List Value) (n : Nat), Vals xs its ∧ h.get? a = some { cls := .type "list", data := .seq its.toArray n }
  | .tup xs => xs.length ≤ sizeLine ∧ ∃ its : List Value, Vals xs its ∧ IsTup h a its.toArray
  | .dK kvs => kvs.length ≤ sizeLine ∧ (a == sysModules) = false ∧ ∃ vs, KV kvs vs ∧ h.DictOf (mixKind P w) a vs
  | .dT kvs => kvs.length ≤ sizeLine ∧ (a == sysModules) = false ∧ ∃ xs : List (List Key × Addr × Value),
      Paired (fun (p : List Key × V) (q : List Key × Addr × Value) => p.1 = q.1 ∧ H q.2.1 = some (.tup (p.1.map kV)) ∧ RelV p.2 q.2.2) kvs xs ∧
      ∃ o es ep, h.get? a = some o ∧ o.ExactDict ∧ o.data = .dict es ep ∧ es.toList = xs.map (entryOfKey (tupleKind (mixKind P w))) ∧ (xs.map (·.1)).Nodup
  | .set S n => h.SetOf (intKind P w) a S n
  | .ins C dx fs => H dx = some (.own a) ∧ fs.length ≤ 1000 ∧ dx ≠ a ∧ h.get? a = some (PySem.W.instObj C dx) ∧
      ∃ mA, h.Ns1 dx mA ∧ (∀ f, RelO (fs.lookup f) (mA f)) ∧ PySem.Within mA (fs.map (·.1))
  | .own _ => ∃ o, h.get? a = some o
  | .xd fs => ∃ mA, h.Ns1 a mA ∧ ∀ f, RelO (fs.lookup f) (mA f)
  | .rng lo hi => ∃ t u v, h.get? a = some { cls := .type "range", data := .fields #[.int lo t, .int hi u, .int 1 v] }
  | .frz o u => h.get? a = some o ∧ ObjOk H h a u
  | .tbl ps => h.get? a = some { cls := .none, data := .fields ps }
  | .met f x => h.get? a = some (PySem.W.methodObj (.ref f) (.ref x))
  | .ext φ => φ h ∧ (∃ o, h.get? a = some o) ∧ ∀ h1 h2 : Heap, φ h1 → (∀ o, h1.get? a = some o → h2.get? a = some o) → φ h2
/-- the abstract heap is held -/
def HOk (H : Hp) (h : Heap) : Prop := ∀ a o, H a = some o → ObjOk P w H h a o
end

section
variable {P : Program} {w : World} {H H' : Hp} {h h' : Heap} {a : Addr} {o : HO}
theorem ObjOk.lt (x : ObjOk P w H h a o) : a < h.objs.size := by
  cases o with
  | lst xs => obtain ⟨_, _, _, _, e⟩ := x; exact Heap.lt_size e
  | tup xs => obtain ⟨_, _, _, p⟩ := x; exact p.lt
  | dK kvs => obtain ⟨_, _, _, _, o, _, _, e, _⟩ := x; exact Heap.lt_size e
  | dT kvs => obtain ⟨_, _, _, _, o, _, _, e, _⟩ := x; exact Heap.lt_size e
  | set S n => obtain ⟨o, _, _, _, e, _⟩ := x; exact Heap.lt_size e
  | ins C dx fs => obtain ⟨_, _, _, e, _⟩ := x; exact Heap.lt_size e
  | own y => obtain ⟨_, e⟩ := x; exact Heap.lt_size e
  | xd fs => obtain ⟨_, ⟨_, _, _, e, _⟩, _⟩ := x; exact Heap.lt_size e
  | rng lo hi => obtain ⟨_, _, _, e⟩ := x; exact Heap.lt_size e
  | frz ob u => obtain ⟨e, _⟩ := x; exact Heap.lt_size e
  | tbl ps => exact Heap.lt_size (show h.get? a = some _ from x)
  | met f y => exact Heap.lt_size (show h.get? a = some _ from x)
  | ext φ => obtain ⟨_, ⟨_, e⟩, _⟩ := x; exact Heap.lt_size e
theorem Paired.mapP {α β : Type} {F G : α → β → Prop} : ∀ {l₁ : List α} {l₂ : List β}, Paired F l₁ l₂ → (∀ a b, F a b → G a b) → Paired G l₁ l₂
  | _, _, .nil, _ => .nil
  | _, _, .cons r t, f => .cons (f _ _ r) (Paired.mapP t f)
/-- what an object's description leans on: its own object, its own dict, the tuples -/
theorem ObjOk.stay (x : ObjOk P w H h a o) (k : ∀ b u, (b = a ∨ H b = some (.own a)) → h.get? b = some u → h'.get? b = some u)
    (ho : ∀ b, H b = some (.own a) → H' b = some (.own a)) (ht : ∀ b xs, H b = some (.tup xs) → H' b = some (.tup xs)) : ObjOk P w H' h' a o := by
  induction o with
  | lst xs => obtain ⟨z, its, n, r, e⟩ := x; exact ⟨z, its, n, r, k _ _ (.inl rfl) e⟩
  | tup xs => obtain ⟨z, its, r, ob, e, c⟩ := x; exact ⟨z, its, r, ob, k _ _ (.inl rfl) e, c⟩
  | dK kvs => obtain ⟨z, y, vs, r, ob, es, ep, e, c⟩ := x; exact ⟨z, y, vs, r, ob, es, ep, k _ _ (.inl rfl) e, c⟩
  | dT kvs =>
    obtain ⟨z, y, xs, r, ob, es, ep, e, c⟩ := x
    exact ⟨z, y, xs, Paired.mapP r fun p q z => ⟨z.1, ht _ _ z.2.1, z.2.2⟩, ob, es, ep, k _ _ (.inl rfl) e, c⟩
  | set S n => obtain ⟨ob, es, ep, t, e, c⟩ := x; exact ⟨ob, es, ep, t, k _ _ (.inl rfl) e, c⟩
  | ins C dx fs =>
    obtain ⟨d, z, ne, e, mA, ⟨od, es, ep, e2, c⟩, r⟩ := x
    exact ⟨ho _ d, z, ne, k _ _ (.inl rfl) e, mA, ⟨od, es, ep, k _ _ (.inr d) e2, c⟩, r⟩
  | own y => obtain ⟨ob, e⟩ := x; exact ⟨ob, k _ _ (.inl rfl) e⟩
  | xd fs => obtain ⟨mA, ⟨od, es, ep, e, c⟩, r⟩ := x; exact ⟨mA, ⟨od, es, ep, k _ _ (.inl rfl) e, c⟩, r⟩
  | rng lo hi => obtain ⟨t, u, v, e⟩ := x; exact ⟨t, u, v, k _ _ (.inl rfl) e⟩
  | frz ob u ih => obtain ⟨e, q⟩ := x; exact ⟨k _ _ (.inl rfl) e, ih q⟩
  | tbl ps =>
    have e : h.get? a = some { cls := .none, data := .fields ps } := x
    show h'.get? a = some { cls := .none, data := .fields ps }
    exact k a _ (.inl rfl) e
  | met f y =>
    have e : h.get? a = some (PySem.W.methodObj (.ref f) (.ref y)) := x
    show h'.get? a = some (PySem.W.methodObj (.ref f) (.ref y))
    exact k a _ (.inl rfl) e
  | ext φ => obtain ⟨p, ⟨o, e⟩, st⟩ := x; exact ⟨st _ _ p fun o q => k _ _ (.inl rfl) q, ⟨o, k _ _ (.inl rfl) e⟩, st⟩
theorem HOk.lt (x : HOk P w H h) (e : H a = some o) : a < h.objs.size := (x a o e).lt
theorem HOk.fresh (x : HOk P w H h) (e : h.objs.size ≤ a) : H a = none := by
  cases q : H a with
  | none => rfl
  | some u => exact absurd (Nat.lt_of_lt_of_le (x.lt q) e) (Nat.lt_irrefl _)
/-- every object of the heap is kept -/
theorem HOk.kept (x : HOk P w H h) (k : ∀ b u, h.get? b = some u → h'.get? b = some u) : HOk P w H h' := fun a o e =>
  (x a o e).stay (fun b u _ q => k b u q) (fun _ q => q) fun _ _ q => q
/-- a new object is laid and tracked -/
theorem HOk.laid (x : HOk P w H h) (k : ∀ b u, h.get? b = some u → h'.get? b = some u) (hp : h.objs.size ≤ a) (new : ObjOk P w (upd H a o) h' a o) : HOk P w (upd H a o) h' := fun b u e => by
  have hn := x.fresh hp
  by_cases hb : b = a
  · subst hb; rw [upd_same] at e; cases e; exact new
  · rw [upd_ne hb] at e
    exact (x b u e).stay (fun c v _ q => k c v q) (fun c q => by rw [upd_ne (ne_of_none q hn)]; exact q) fun c xs q => by rw [upd_ne (ne_of_none q hn)]; exact q
end

/-- what may be read as u: it is u, or a known u -/
def Rd (H : Hp) (a : Addr) (u : HO) : Prop := H a = some u ∨ ∃ o, H a = some (.frz o u)
theorem Rd.of {H : Hp} {a : Addr} {u : HO} (h : H a = some u) : Rd H a u := .inl h
theorem Rd.ok {P : Program} {w : World} {H : Hp} {h : Heap} {a : Addr} {u : HO} (r : Rd H a u) (x : HOk P w H h) : ObjOk P w H h a u := by
  rcases r with r | ⟨o, r⟩
  · exact x a u r
  · obtain ⟨_, q⟩ := x a _ r
    exact q
/-- what may be written -/
def Mut : Option HO → Prop
  | some (.lst _) => True
  | some (.dK _) => True
  | some (.dT _) => True
  | some (.set _ _) => True
  | some (.ins _ _ _) => True
  | some (.ext _) => True
  | _ => False
section
variable {P : Program} {w : World} {H : Hp} {h h' : Heap} {x e : Addr} {o' : HO}
/-- the object at e is changed: x itself, or the dict of the instance x -/
theorem HOk.write (ok : HOk P w H h) (mu : Mut (H x)) (he : e = x ∨ H e = some (.own x)) (k : ∀ b u, b ≠ e → h.get? b = some u → h'.get? b = some u) (heo : ∃ u, h'.get? e = some u)
    (new : ObjOk P w (upd H x o') h' x o') : HOk P w (upd H x o') h' := fun b u q => by
  have nown : ∀ c y, H c = some (.own y) → c ≠ x := fun c y r z => by subst z; rw [r] at mu; exact mu
  have ntup : ∀ c xs, H c = some (.tup xs) → c ≠ x := fun c xs r z => by subst z; rw [r] at mu; exact mu
  by_cases hb : b = x
  · subst hb; rw [upd_same] at q; cases q; exact new
  · rw [upd_ne hb] at q
    by_cases hbe : b = e
    · have q' : H b = some (.own x) := by
        rcases he with z | z
        · exact absurd (hbe.trans z) hb
        · rw [hbe]; exact z
      rw [q] at q'; cases q'
      obtain ⟨v, hv⟩ := heo
      exact ⟨v, by rw [hbe]; exact hv⟩
    · refine (ok b u q).stay (fun c v hc r => k c v ?_ r) (fun c r => by rw [upd_ne (nown c b r)]; exact r) fun c xs r => by rw [upd_ne (ntup c xs r)]; exact r
      rcases hc with rfl | hc
      · exact hbe
      · rintro rfl
        rcases he with z | z
        · exact nown c b hc z
        · rw [hc] at z; cases z; exact hb rfl
end

/-! ### kept unless tracked; of the frames at fs (the callers') the slots may change (an exception that passes writes there); of the records at ex (iterators) nothing is said -/
structure Un (fs ex : List Addr) (H H' : Hp) (h h' : Heap) : Prop where
  keep : ∀ b o, h.get? b = some o → H b = none → b ∉ fs → b ∉ ex → h'.get? b = some o
  slot : ∀ b o, h.get? b = some o → H b = none → b ∈ fs → b ∉ ex → ∃ sl, h'.get? b = some { o with slots := sl }
  free : ∀ b o, h.get? b = some o → H b = none → b ∉ ex → H' b = none
  there : ∀ b o, h.get? b = some o → b ∉ ex → ∃ o', h'.get? b = some o'
  tups : ∀ b xs, H b = some (.tup xs) → H' b = some (.tup xs)
  frzs : ∀ b o u, H b = some (.frz o u) → H' b = some (.frz o u)
  tbls : ∀ b ps, H b = some (.tbl ps) → ∃ more, H' b = some (.tbl (ps ++ more))
section
variable {fs fs' ex ex' : List Addr} {H H1 H2 : Hp} {h h1 h2 h' : Heap} {a x e : Addr} {o : HO}
theorem Un.any (u : Un fs ex H H1 h h1) {b : Addr} {ob : Obj} (q : h.get? b = some ob) (n : H b = none) (hx : b ∉ ex) : ∃ sl, h1.get? b = some { ob with slots := sl } := by
  by_cases hb : b ∈ fs
  · exact u.slot b ob q n hb hx
  · exact ⟨ob.slots, u.keep b ob q n hb hx⟩
theorem Un.trans (a : Un fs ex H H1 h h1) (b : Un fs ex H1 H2 h1 h2) : Un fs ex H H2 h h2 where
  keep := fun c ob q n hc hx => b.keep c ob (a.keep c ob q n hc hx) (a.free c ob q n hx) hc hx
  slot := fun c ob q n hc hx => by
    obtain ⟨sl, e1⟩ := a.slot c ob q n hc hx
    obtain ⟨sl', e2⟩ := b.slot c _ e1 (a.free c ob q n hx) hc hx
    exact ⟨sl', e2⟩
  free := fun c ob q n hx => by
    obtain ⟨o', e1⟩ := a.there c ob q hx
    exact b.free c o' e1 (a.free c ob q n hx) hx
  there := fun c ob q hx => by
    obtain ⟨o', e1⟩ := a.there c ob q hx
    exact b.there c o' e1 hx
  tups := fun c xs q => b.tups c xs (a.tups c xs q)
  frzs := fun c ob xs q => b.frzs c ob xs (a.frzs c ob xs q)
  tbls := fun c ps q => by
    obtain ⟨m1, e1⟩ := a.tbls c ps q
    obtain ⟨m2, e2⟩ := b.tbls c _ e1
    exact ⟨m1 ++ m2, by rw [e2, Array.append_assoc]⟩
theorem Un.kept (k : ∀ b u, h.get? b = some u → h'.get? b = some u) : Un fs ex H H h h' :=
  ⟨fun b ob q _ _ _ => k b ob q, fun b ob q _ _ _ => ⟨ob.slots, k b ob q⟩, fun _ _ _ n _ => n, fun b ob q _ => ⟨ob, k b ob q⟩, fun _ _ q => q, fun _ _ _ q => q, fun _ ps q => ⟨#[], by rw [q]; simp⟩⟩
theorem Un.refl : Un fs ex H H h h := Un.kept fun _ _ q => q
theorem Un.laid (k : ∀ b u, h.get? b = some u → h'.get? b = some u) (hp : h.objs.size ≤ a) (hn : H a = none) : Un fs ex H (upd H a o) h h' where
  keep := fun b u q _ _ _ => k b u q
  slot := fun b u q _ _ _ => ⟨u.slots, k b u q⟩
  free := fun b u q n _ => by rw [upd_ne (Nat.ne_of_lt (Nat.lt_of_lt_of_le (Heap.lt_size q) hp))]; exact n
  there := fun b u q _ => ⟨u, k b u q⟩
  tups := fun b xs q => by rw [upd_ne (ne_of_none q hn)]; exact q
  frzs := fun b u xs q => by rw [upd_ne (ne_of_none q hn)]; exact q
  tbls := fun b ps q => ⟨#[], by rw [upd_ne (ne_of_none q hn), q]; simp⟩
theorem Un.write (mu : Mut (H x)) (he : e = x ∨ H e = some (.own x)) (k : ∀ b u, b ≠ e → h.get? b = some u → h'.get? b = some u) (heo : ∃ u, h'.get? e = some u) : Un fs ex H (upd H x o) h h' := by
  have hx : ∀ b, H b = none → b ≠ x := fun b n z => by subst z; rw [n] at mu; exact mu
  have hb : ∀ b, H b = none → b ≠ e := fun b n z => by
    subst z
    rcases he with r | r
    · exact hx b n r
    · rw [n] at r; cases r
  have hm : ∀ b u, H b = some u → ¬ Mut (some u) → b ≠ x := fun b u q nm z => by subst z; rw [q] at mu; exact nm mu
  refine ⟨fun b u q n _ _ => k b u (hb b n) q, fun b u q n _ _ => ⟨u.slots, k b u (hb b n) q⟩, fun b u q n _ => by rw [upd_ne (hx b n)]; exact n, fun b u q _ => ?_,
    fun b xs q => by rw [upd_ne (hm b _ q fun z => z)]; exact q, fun b u xs q => by rw [upd_ne (hm b _ q fun z => z)]; exact q, fun b ps q => ⟨#[], by rw [upd_ne (hm b _ q fun z => z), q]; simp⟩⟩
  by_cases hbe : b = e
  · subst hbe; exact heo
  · exact ⟨u, k b u hbe q⟩
theorem Un.mono (u : Un fs ex H H1 h h1) (hs : ∀ b ∈ fs, b ∈ fs') (hx : ∀ b ∈ ex, b ∈ ex') : Un fs' ex' H H1 h h1 :=
  ⟨fun b ob q n hb he => u.keep b ob q n (fun z => hb (hs b z)) fun z => he (hx b z), fun _ _ q n _ he => u.any q n fun z => he (hx _ z), fun b ob q n he => u.free b ob q n fun z => he (hx b z), fun b ob q he => u.there b ob q fun z => he (hx b z), u.tups, u.frzs, u.tbls⟩
end

/-! ### the heap without what is tracked -/
def trk (h : Heap) (H : Hp) : List Addr := (List.range h.objs.size).filter fun a => (H a).isSome
def hidT (h : Heap) (H : Hp) : Heap := PySem.W.hideAll h (trk h H)
theorem hidT_size (h : Heap) (H : Hp) : (hidT h H).objs.size = h.objs.size := PySem.W.hideAll_size _ _
theorem hidT_get {h : Heap} {H : Hp} {b : Addr} {o : Obj} (e : h.get? b = some o) (n : H b = none) : (hidT h H).get? b = some o :=
  PySem.W.hideAll_get _ e fun hm => by
    have q : (H b).isSome = true := (List.mem_filter.mp hm).2
    rw [n] at q; simp at q
theorem of_hidT {h : Heap} {H : Hp} {b : Addr} {o : Obj} (e : (hidT h H).get? b = some o) : h.get? b = some o ∧ H b = none := by
  have e' : h.get? b = some o := PySem.W.of_hideAll (trk h H) e
  refine ⟨e', ?_⟩
  cases q : H b with
  | none => rfl
  | some x =>
    have hm : b ∈ trk h H := List.mem_filter.mpr ⟨List.mem_range.mpr (Heap.lt_size e'), by simp [q]⟩
    have z : (hidT h H).get? b = none := PySem.W.hideAll_none (trk h H) hm
    rw [z] at e; cases e

/-! ### OpenK's ledger, filled with every new object but one -/
def allNews (g h : Heap) (L : Addr) : List (Addr × Obj) := (List.range h.objs.size).filterMap fun a => if a = L ∨ (g.get? a).isSome = true then none else (h.get? a).map fun o => (a, o)
def rest (g h : Heap) (L d : Addr) : List (Addr × Obj) := (allNews g h L).filter fun p => decide (p.1 ≠ d)
end L2

namespace L2
open PySem PySem.Spec PyProof.Rows

/-- the module's facts, over the base: the heap at the law's entry without what is tracked there -/
structure Mod (K : PySem.W.Frag) (mg : Str → Option Value) (base : Heap) : Prop where
  kin : K.In base
  glob : base.Ns mainGlobals mg
  blt : ∃ mb, base.Ns builtinsNs mb ∧ ∀ x : Str, x ≠ "__name__" → mb x = bootBuiltins x
  nolimit : base.NoLimit

/-- the context: a def's body (or a comprehension's block) running. base: fixed through the whole law; s₀, H₀: the entry; outer: the frames whose slots others may change (a def's callers); stack: all frames that run;
   ex: iterators that were made ahead of the entry and are walked here (a comprehension's); fn: the names whose cells were made at the entry (a def: all; a comprehension's block: its own); calm: not within an except suite; pn: pins that every state bears; xe: what is wanted of an exception that leaves the code -/
structure Cx where
  prog : Program
  w : World
  K : PySem.W.Frag
  mg : Str → Option Value
  base : Heap
  A : Around
  N : List Str
  s₀ : Shared
  H₀ : Hp
  env : Env
  outer : List Env
  stack : List Env
  ex : List Addr
  fn : Str → Bool
  calm : Bool
  pn : List (Addr × Obj)
  xe : Value → Shared → Prop
/-- the callers' frames -/
def frs (l : List Env) : List Addr := l.filterMap (·.frame)
abbrev Cx.fs (X : Cx) : List Addr := frs X.outer

def Vis (sc : Scope) (x : Str) : Prop := sc.names.lookup x = some .local ∨ sc.names.lookup x = some .cell ∨ sc.names.lookup x = some .free
def Loc (sc : Scope) (x : Str) : Prop := sc.names.lookup x = some .local ∨ sc.names.lookup x = some .cell
def Look (env : Env) (h : Heap) (m : Str → Option Value) (x : Str) (u : Value) : Prop :=
  (env.kindOf x = some .local ∧ m x = some u) ∨ ((env.kindOf x = some .cell ∨ env.kindOf x = some .free) ∧ ∃ c, env.cells.lookup x = some c ∧ h.IsCell c (some u))

structure Cx.Ok (X : Cx) : Prop where
  mod : Mod X.K X.mg X.base
  kind : X.env.scope.kind = .function
  glob : X.env.globals = mainGlobals
  blt : X.env.builtins = builtinsNs
  above : X.s₀.heap.objs.size ≤ X.env.locals
  inj : ∀ x y c, X.env.cells.lookup x = some c → X.env.cells.lookup y = some c → x = y
  has : ∀ x, (X.env.kindOf x = some .cell ∨ X.env.kindOf x = some .free) → ∃ c, X.env.cells.lookup x = some c
  cab : ∀ x c, X.fn x = true → X.env.cells.lookup x = some c → X.s₀.heap.objs.size ≤ c
  hd : X.calm = true → X.A.handled = none
  frames : X.A.frames = some X.stack
  stk : X.stack = X.outer ∨ (X.stack = X.env :: X.outer ∧ X.env.frame = some X.env.locals)
  exf : ∀ b ∈ X.ex, b ≠ X.env.locals ∧ ∀ x c, X.env.cells.lookup x = some c → c ≠ b
  bs : ∀ b o, X.base.get? b = some o → X.s₀.heap.get? b = some o ∧ X.H₀ b = none
  bsz : X.base.objs.size ≤ X.s₀.heap.objs.size
  noex : ∀ b o, X.base.get? b = some o → b ∉ X.ex
  exfs : ∀ b ∈ X.ex, b ∉ X.fs
  funs : X.s₀.heap.FunFrames X.base X.outer
  frf : ∀ b ∈ X.fs, X.H₀ b = none

structure Inv (X : Cx) (pins : List (Addr × Obj)) (σ : List (Option V)) (H : Hp) (s : Shared) : Prop where
  ok : X.Ok
  os : s.os = X.s₀.os
  bare : AllBare s.gens
  base : Un X.fs X.ex X.H₀ H X.s₀.heap s.heap
  loc : ∃ m, s.heap.Ns X.env.locals m ∧ ∀ (i : Nat) (x : Str) (v : V), X.N[i]? = some x → σ[i]? = some (some v) → Vis X.env.scope x → ∃ u, RelV v u ∧ Look X.env s.heap m x u
  cell : ∀ x c, X.env.cells.lookup x = some c → ∃ v, s.heap.IsCell c v
  free : H X.env.locals = none
  freeC : ∀ x c, X.env.cells.lookup x = some c → H c = none
  pin : ∀ p ∈ X.pn ++ pins, s.heap.get? p.1 = some p.2 ∧ H p.1 = none ∧ p.1 ≠ X.env.locals ∧ p.1 ∉ X.fs ∧ ∀ v, p.2.data ≠ .cell v
  hok : HOk X.prog X.w H s.heap
  len : σ.length = X.N.length

section
variable {X : Cx} {pins : List (Addr × Obj)} {σ : List (Option V)} {H H' : Hp} {s : Shared} {h' : Heap}

theorem Cx.Ok.nofr (ok : X.Ok) {b : Addr} {o : Obj} (e : X.base.get? b = some o) : b ∉ X.fs := fun hb => by
  have := (ok.funs.mem hb).1
  rw [e] at this; cases this
theorem Inv.bs (I : Inv X pins σ H s) : ∀ b o, X.base.get? b = some o → s.heap.get? b = some o ∧ H b = none := fun b o e =>
  ⟨I.base.keep b o (I.ok.bs b o e).1 (I.ok.bs b o e).2 (I.ok.nofr e) (I.ok.noex b o e), I.base.free b o (I.ok.bs b o e).1 (I.ok.bs b o e).2 (I.ok.noex b o e)⟩
theorem Inv.bk (I : Inv X pins σ H s) : ∀ b o, X.base.get? b = some o → s.heap.get? b = some o := fun b o e => (I.bs b o e).1
theorem Inv.mod (I : Inv X pins σ H s) : Mod X.K X.mg X.base := I.ok.mod
theorem Inv.kIn (I : Inv X pins σ H s) : X.K.In s.heap := I.ok.mod.kin.keeps I.bk
theorem Inv.lt (I : Inv X pins σ H s) : X.env.locals < s.heap.objs.size := let ⟨_, hn, _⟩ := I.loc; hn.lt
theorem Inv.sz (I : Inv X pins σ H s) : X.s₀.heap.objs.size ≤ s.heap.objs.size := Nat.le_trans I.ok.above (Nat.le_of_lt I.lt)
theorem Inv.nofs (I : Inv X pins σ H s) {a : Addr} (h : s.heap.objs.size ≤ a) : a ∉ X.fs := fun hb => by
  obtain ⟨_, o, ho, _⟩ := I.ok.funs.mem hb
  exact absurd (Nat.lt_of_lt_of_le (Heap.lt_size ho) (Nat.le_trans I.sz h)) (Nat.lt_irrefl _)
theorem Inv.cne (I : Inv X pins σ H s) : ∀ x c, X.env.cells.lookup x = some c → c ≠ X.env.locals := fun x c e z => by
  obtain ⟨v, o, ho, hd⟩ := I.cell x c e
  obtain ⟨m, ⟨o', es, ep, ho', hd', _⟩, _⟩ := I.loc
  rw [z, ho'] at ho; cases ho; rw [hd'] at hd; cases hd
theorem Inv.funs (I : Inv X pins σ H s) : s.heap.FunFrames X.base X.outer := by
  have all : ∀ (l : List Env), (∀ b ∈ frs l, b ∈ X.fs) → X.s₀.heap.FunFrames X.base l → s.heap.FunFrames X.base l := by
    intro l
    induction l with
    | nil => intro _ _; trivial
    | cons env r ih =>
      intro hs hl
      obtain ⟨hk, ⟨L, o, hf, hn, ho, hd⟩, hr⟩ := hl
      have hL : L ∈ X.fs := hs L (by unfold frs; rw [List.filterMap_cons, hf]; exact List.mem_cons_self)
      obtain ⟨sl, e⟩ := I.base.slot L o ho (I.ok.frf L hL) hL fun z => I.ok.exfs L z hL
      exact ⟨hk, ⟨L, _, hf, hn, e, hd⟩, ih (fun b hb => hs b (by unfold frs; rw [List.filterMap_cons, hf]; exact List.mem_cons_of_mem _ hb)) hr⟩
  exact all X.outer (fun _ hb => hb) I.ok.funs

/-- the frames that run, for a call -/
theorem Inv.stack (I : Inv X pins σ H s) : s.heap.FunFrames X.base X.stack := by
  rcases I.ok.stk with e | ⟨e, hf⟩
  · rw [e]; exact I.funs
  · rw [e]
    obtain ⟨m, hn, _⟩ := I.loc
    refine .cons (by rw [I.ok.kind]; decide) hf hn ?_ I.funs
    exact Heap.get?_none_of_le (Nat.le_trans I.ok.bsz I.ok.above)
theorem Inv.stkSub (I : Inv X pins σ H s) : ∀ b ∈ frs X.stack, b ∈ X.env.locals :: X.fs := fun b hb => by
  rcases I.ok.stk with e | ⟨e, hf⟩
  · rw [e] at hb; exact List.mem_cons_of_mem _ hb
  · rw [e] at hb
    unfold frs at hb
    rw [List.filterMap_cons, hf] at hb
    exact hb
theorem Inv.stkFree (I : Inv X pins σ H s) : ∀ b ∈ frs X.stack, H b = none := fun b hb => by
  rcases List.mem_cons.mp (I.stkSub b hb) with e | hb
  · rw [e]; exact I.free
  · obtain ⟨_, o, ho, _⟩ := I.ok.funs.mem hb
    exact I.base.free b o ho (I.ok.frf b hb) fun z => I.ok.exfs b z hb

/-- THE STEP: the untracked objects but the frame and the records at ch are kept (the callers' frames up to slots), the frame's map is kept, the new abstract heap is held -/
theorem Inv.step {g' : Array GenState} {t' : Nat} {d' : Drawn} {ch : List Addr} (I : Inv X pins σ H s)
    (hch : ∀ b ∈ ch, (b ∈ X.ex ∨ X.s₀.heap.objs.size ≤ b) ∧ b ≠ X.env.locals ∧ (∀ x c, X.env.cells.lookup x = some c → c ≠ b) ∧ ∀ p ∈ X.pn ++ pins, p.1 ≠ b)
    (keep : ∀ b o, b ≠ X.env.locals → b ∉ X.fs → b ∉ ch → s.heap.get? b = some o → H b = none → h'.get? b = some o)
    (slot : ∀ b o, b ≠ X.env.locals → b ∈ X.fs → b ∉ ch → s.heap.get? b = some o → H b = none → ∃ sl, h'.get? b = some { o with slots := sl }) (free : ∀ b o, b ∉ ch → s.heap.get? b = some o → H b = none → H' b = none)
    (there : ∀ b o, b ∉ ch → s.heap.get? b = some o → ∃ o', h'.get? b = some o')
    (tups : ∀ b xs, H b = some (.tup xs) → H' b = some (.tup xs)) (frzs : ∀ b o u, H b = some (.frz o u) → H' b = some (.frz o u)) (tbls : ∀ b ps, H b = some (.tbl ps) → ∃ more, H' b = some (.tbl (ps ++ more)))
    (ns : ∀ m, s.heap.Ns X.env.locals m → h'.Ns X.env.locals m) (hok : HOk X.prog X.w H' h') (hg : AllBare g') :
    Inv X pins σ H' { s with heap := h', gens := g', drawn := d', toks := t' } := by
  have neL : ∀ b o, X.s₀.heap.get? b = some o → b ≠ X.env.locals := fun b o e => Nat.ne_of_lt (Nat.lt_of_lt_of_le (Heap.lt_size e) I.ok.above)
  have neC : ∀ b o, X.s₀.heap.get? b = some o → b ∉ X.ex → b ∉ ch := fun b o e hx hb => by
    rcases (hch b hb).1 with z | z
    · exact hx z
    · exact absurd (Nat.lt_of_lt_of_le (Heap.lt_size e) z) (Nat.lt_irrefl _)
  have cellK : ∀ x c, X.env.cells.lookup x = some c → ∀ v, s.heap.IsCell c v → h'.IsCell c v := fun x c e v ⟨o, ho, hd⟩ => by
    have nch : c ∉ ch := fun z => (hch c z).2.2.1 x c e rfl
    by_cases hc : c ∈ X.fs
    · obtain ⟨sl, q⟩ := slot c o (I.cne x c e) hc nch ho (I.freeC x c e)
      exact ⟨_, q, hd⟩
    · exact ⟨o, keep c o (I.cne x c e) hc nch ho (I.freeC x c e), hd⟩
  refine ⟨I.ok, I.os, hg, ⟨fun b o e n hb hx => ?_, fun b o e n hb hx => ?_, fun b o e n hx => ?_, fun b o e hx => ?_, fun b xs e => tups b xs (I.base.tups b xs e), fun b o xs e => frzs b o xs (I.base.frzs b o xs e), fun b ps e => ?_⟩, ?_, fun x c e => ?_, ?_, fun x c e => ?_, fun p hp => ?_, hok, I.len⟩
  · exact keep b o (neL b o e) hb (neC b o e hx) (I.base.keep b o e n hb hx) (I.base.free b o e n hx)
  · obtain ⟨sl, e1⟩ := I.base.slot b o e n hb hx
    obtain ⟨sl', e2⟩ := slot b _ (neL b o e) hb (neC b o e hx) e1 (I.base.free b o e n hx)
    exact ⟨sl', e2⟩
  · obtain ⟨o', e1⟩ := I.base.there b o e hx
    exact free b o' (neC b o e hx) e1 (I.base.free b o e n hx)
  · obtain ⟨o', e1⟩ := I.base.there b o e hx
    exact there b o' (neC b o e hx) e1
  · obtain ⟨m1, e1⟩ := I.base.tbls b ps e
    obtain ⟨m2, e2⟩ := tbls b _ e1
    exact ⟨m1 ++ m2, by rw [e2, Array.append_assoc]⟩
  · obtain ⟨m, hn, hl⟩ := I.loc
    refine ⟨m, ns m hn, fun i x v e1 e2 e3 => ?_⟩
    obtain ⟨u, r, l⟩ := hl i x v e1 e2 e3
    refine ⟨u, r, ?_⟩
    rcases l with l | ⟨k, c, e, z⟩
    · exact .inl l
    · exact .inr ⟨k, c, e, cellK x c e _ z⟩
  · obtain ⟨v, z⟩ := I.cell x c e
    exact ⟨v, cellK x c e v z⟩
  · obtain ⟨m, ⟨o, _, _, ho, _⟩, _⟩ := I.loc
    exact free _ o (fun z => (hch _ z).2.1 rfl) ho I.free
  · obtain ⟨v, o, ho, hd⟩ := I.cell x c e
    exact free c o (fun z => (hch c z).2.2.1 x c e rfl) ho (I.freeC x c e)
  · obtain ⟨e, n, ne, nf, d⟩ := I.pin p hp
    have nch : p.1 ∉ ch := fun z => (hch p.1 z).2.2.2 p hp rfl
    exact ⟨keep p.1 p.2 ne nf nch e n, free p.1 p.2 nch e n, ne, nf, d⟩
/-- .. where the frame's own object is kept too -/
theorem Inv.un {t' : Nat} (I : Inv X pins σ H s) (u : Un X.fs [] H H' s.heap h') (hok : HOk X.prog X.w H' h') : Inv X pins σ H' { s with heap := h', toks := t' } := by
  obtain ⟨m, ⟨o, es, ep, ho, r⟩, _⟩ := id I.loc
  obtain ⟨sl, hL⟩ := u.any ho I.free (by simp)
  exact I.step (g' := s.gens) (d' := s.drawn) (ch := []) (fun _ z => nomatch z) (fun b o _ hb _ e n => u.keep b o e n hb (by simp)) (fun b o _ hb _ e n => u.slot b o e n hb (by simp)) (fun b o _ e n => u.free b o e n (by simp)) (fun b o _ e => u.there b o e (by simp)) u.tups u.frzs u.tbls (fun m' hm => by
    obtain ⟨o', es', ep', ho', r'⟩ := hm
    rw [ho] at ho'; cases ho'
    exact ⟨_, es', ep', hL, r'⟩) hok I.bare
/-- behind a call (or a comprehension's block): the slots of this frame may have changed too, the records at ch may have turned -/
theorem Inv.call {g' : Array GenState} {t' : Nat} {d' : Drawn} {ch : List Addr} (I : Inv X pins σ H s) (u : Un (frs X.stack) ch H H' s.heap h') (hok : HOk X.prog X.w H' h') (hg : AllBare g')
    (hch : ∀ b ∈ ch, (b ∈ X.ex ∨ X.s₀.heap.objs.size ≤ b) ∧ b ≠ X.env.locals ∧ (∀ x c, X.env.cells.lookup x = some c → c ≠ b) ∧ ∀ p ∈ X.pn ++ pins, p.1 ≠ b) :
    Inv X pins σ H' { s with heap := h', gens := g', drawn := d', toks := t' } := by
  obtain ⟨m, ⟨o, es, ep, ho, r⟩, _⟩ := id I.loc
  obtain ⟨sl, hL⟩ := u.any ho I.free fun z => (hch _ z).2.1 rfl
  exact I.step (ch := ch) hch (fun b o hL hb hc e n => u.keep b o e n (fun z => (List.mem_cons.mp (I.stkSub b z)).elim hL hb) hc) (fun b o _ _ hc e n => u.any e n hc) (fun b o hc e n => u.free b o e n hc) (fun b o hc e => u.there b o e hc) u.tups u.frzs u.tbls (fun m' hm => by
    obtain ⟨o', es', ep', ho', r'⟩ := hm
    rw [ho] at ho'; cases ho'
    exact ⟨_, es', ep', hL, r'⟩) hok hg
/-- an untracked record of ours (an iterator) has turned -/
theorem Inv.turned {t' : Nat} {it : Addr} (I : Inv X pins σ H s) (k : ∀ b o, b ≠ it → s.heap.get? b = some o → h'.get? b = some o) (hn : H it = none) (hL : it ≠ X.env.locals)
    (h1 : it ∈ X.ex ∨ X.s₀.heap.objs.size ≤ it) (h2 : ∀ x c, X.env.cells.lookup x = some c → c ≠ it) (h3 : ∀ p ∈ X.pn ++ pins, p.1 ≠ it) : Inv X pins σ H { s with heap := h', toks := t' } := by
  have nit : ∀ b u, H b = some u → b ≠ it := fun b u e z => by rw [z, hn] at e; cases e
  refine I.step (g' := s.gens) (d' := s.drawn) (ch := [it]) (fun b hb => ?_) (fun b o _ _ hc e _ => k b o (fun z => hc (by simp [z])) e) (fun b o _ _ hc e _ => ⟨o.slots, k b o (fun z => hc (by simp [z])) e⟩) (fun _ _ _ _ n => n)
    (fun b o hc e => ⟨o, k b o (fun z => hc (by simp [z])) e⟩) (fun _ _ e => e) (fun _ _ _ e => e) (fun b ps e => ⟨#[], by rw [e]; simp⟩) (fun m hm => ?_) (fun b u e => ?_) I.bare
  · have e : b = it := by simpa using hb
    subst e
    exact ⟨h1, hL, h2, h3⟩
  · obtain ⟨o, es, ep, ho, r⟩ := hm
    exact ⟨o, es, ep, k _ o (Ne.symm hL) ho, r⟩
  · refine (I.hok b u e).stay (fun c v hc q => k c v ?_ q) (fun _ q => q) fun _ _ q => q
    rcases hc with z | z
    · rw [z]; exact nit b u e
    · exact nit c _ z
theorem Inv.tok (I : Inv X pins σ H s) (t : Nat) : Inv X pins σ H { s with toks := t } := I.un (h' := s.heap) (t' := t) Un.refl I.hok
/-- all objects kept -/
theorem Inv.kept {t' : Nat} (I : Inv X pins σ H s) (k : ∀ b u, s.heap.get? b = some u → h'.get? b = some u) : Inv X pins σ H { s with heap := h', toks := t' } := I.un (Un.kept k) (I.hok.kept k)
/-- a new object laid and tracked -/
theorem Inv.laid {a : Addr} {o : HO} {t' : Nat} (I : Inv X pins σ H s) (k : ∀ b u, s.heap.get? b = some u → h'.get? b = some u) (hp : s.heap.objs.size ≤ a) (new : ObjOk X.prog X.w (upd H a o) h' a o) :
    Inv X pins σ (upd H a o) { s with heap := h', toks := t' } := I.un (Un.laid k hp (I.hok.fresh hp)) (I.hok.laid k hp new)
/-- an object written -/
theorem Inv.write {x e : Addr} {o : HO} {t' : Nat} (I : Inv X pins σ H s) (mu : Mut (H x)) (he : e = x ∨ H e = some (.own x)) (k : ∀ b u, b ≠ e → s.heap.get? b = some u → h'.get? b = some u) (heo : ∃ u, h'.get? e = some u)
    (new : ObjOk X.prog X.w (upd H x o) h' x o) : Inv X pins σ (upd H x o) { s with heap := h', toks := t' } := I.un (Un.write mu he k heo) (I.hok.write mu he k heo new)
theorem Inv.pins_of {pins' : List (Addr × Obj)} (I : Inv X pins σ H s) (h : ∀ p ∈ pins', s.heap.get? p.1 = some p.2 ∧ H p.1 = none ∧ p.1 ≠ X.env.locals ∧ p.1 ∉ X.fs ∧ ∀ v, p.2.data ≠ .cell v) : Inv X pins' σ H s :=
  ⟨I.ok, I.os, I.bare, I.base, I.loc, I.cell, I.free, I.freeC, fun p hp => (List.mem_append.mp hp).elim (fun z => I.pin p (List.mem_append_left _ z)) (h p), I.hok, I.len⟩

theorem nodup_ix {N : List Str} (hN : N.Nodup) {i j : Nat} {x : Str} (a : N[i]? = some x) (b : N[j]? = some x) : i = j := by
  obtain ⟨h1, e1⟩ := List.getElem?_eq_some_iff.mp a
  obtain ⟨h2, e2⟩ := List.getElem?_eq_some_iff.mp b
  exact (List.getElem_inj hN).mp (e1.trans e2.symm)

/-- a name is stored; what changed -/
theorem store_ok2 {M : Model} {A : Around} {E : Value → Shared → Prop} {i : Nat} {x : Str} {v : V} {u : Value} {Q : Unit → Shared → Prop} (I : Inv X pins σ H s) (hN : X.N.Nodup) (hi : X.N[i]? = some x) (hx : Loc X.env.scope x) (r : RelV v u)
    (h : ∀ s', Inv X pins (σ.set i (some v)) H s' → (∃ a, Heap.SameBut a s.heap s'.heap ∧ (a = X.env.locals ∨ X.env.cells.lookup x = some a)) → Q () s') (hf : X.fn x = true ∨ X.env.scope.names.lookup x = some .local := by first | exact .inl rfl | exact .inr rfl | assumption) : wpAny M A (storeName X.env x u) Q E s := by
  obtain ⟨m, hn, hl⟩ := id I.loc
  have hcls : (X.env.scope.kind == .class || (X.env.scope.kind == .module && X.env.locals != X.env.globals)) = false := by rw [I.ok.kind]; rfl
  have hiσ : i < σ.length := by rw [I.len]; exact (List.getElem?_eq_some_iff.mp hi).1
  have cne := I.cne
  have tracked : ∀ {a : Addr} {h' : Heap}, (∃ o, s.heap.get? a = some o ∧ H a = none) → Heap.SameBut a s.heap h' → HOk X.prog X.w H h' := fun {a h'} ha hs b ob e => by
    obtain ⟨_, _, hfree⟩ := ha
    refine (I.hok b ob e).stay (fun c w' hc q => (hs.2 c ?_).trans q) (fun _ q => q) fun _ _ q => q
    rintro rfl
    rcases hc with rfl | hc
    · rw [hfree] at e; cases e
    · rw [hfree] at hc; cases hc
  rcases hx with hk | hk
  · refine wpAny_storeName_local hk hn (fun h' hn' hs => ?_) hcls
    obtain ⟨oL, _, _, hoL, _⟩ := id hn
    refine h _ ⟨I.ok, I.os, I.bare, ⟨fun b o e n hb hx => ?_, fun b o e n hb hx => ?_, I.base.free, fun b o e hx => ?_, I.base.tups, I.base.frzs, I.base.tbls⟩, ⟨_, hn', fun j y v' e1 e2 e3 => ?_⟩, fun y c e => ?_, I.free, I.freeC, fun p hp => ?_, tracked ⟨oL, hoL, I.free⟩ hs, by simpa using I.len⟩ ⟨_, hs, .inl rfl⟩
    · exact (hs.2 b (Nat.ne_of_lt (Nat.lt_of_lt_of_le (Heap.lt_size e) I.ok.above))).trans (I.base.keep b o e n hb hx)
    · obtain ⟨sl, e1⟩ := I.base.slot b o e n hb hx
      exact ⟨sl, (hs.2 b (Nat.ne_of_lt (Nat.lt_of_lt_of_le (Heap.lt_size e) I.ok.above))).trans e1⟩
    · obtain ⟨o', e1⟩ := I.base.there b o e hx
      exact ⟨o', (hs.2 b (Nat.ne_of_lt (Nat.lt_of_lt_of_le (Heap.lt_size e) I.ok.above))).trans e1⟩
    · by_cases hj : j = i
      · subst hj
        rw [hi] at e1; cases e1
        rw [List.getElem?_set_self hiσ] at e2
        cases e2
        exact ⟨u, r, .inl ⟨hk, by simp⟩⟩
      · rw [List.getElem?_set_ne (Ne.symm hj)] at e2
        obtain ⟨u', r', q⟩ := hl j y v' e1 e2 e3
        refine ⟨u', r', ?_⟩
        rcases q with ⟨k, e⟩ | ⟨k, c, e, z⟩
        · refine .inl ⟨k, ?_⟩
          have : y ≠ x := fun e => hj (nodup_ix hN e1 (e ▸ hi))
          simp [this, e]
        · exact .inr ⟨k, c, e, z.sameBut hs (cne y c e)⟩
    · obtain ⟨w', z⟩ := I.cell y c e
      exact ⟨w', z.sameBut hs (cne y c e)⟩
    · obtain ⟨e, n, ne, nf, d⟩ := I.pin p hp
      exact ⟨(hs.2 p.1 ne).trans e, n, ne, nf, d⟩
  · have hfn : X.fn x = true := by
      rcases hf with z | z
      · exact z
      · rw [z] at hk; cases hk
    obtain ⟨c, hc⟩ := I.ok.has x (.inl hk)
    obtain ⟨w', z⟩ := I.cell x c hc
    refine wpAny_storeName_cell I.ok.kind hk hc z (fun h' hc' hs => ?_)
    obtain ⟨oc, hoc, hocd⟩ := id z
    refine h { s with heap := h' } ⟨I.ok, I.os, I.bare, ⟨fun b o e n hb hx => ?_, fun b o e n hb hx => ?_, I.base.free, fun b o e hx => ?_, I.base.tups, I.base.frzs, I.base.tbls⟩, ⟨m, hn.sameBut hs (Ne.symm (cne x c hc)), fun j y v' e1 e2 e3 => ?_⟩, fun y c' e => ?_, I.free, I.freeC, fun p hp => ?_, tracked ⟨oc, hoc, I.freeC x c hc⟩ hs, by simpa using I.len⟩ ⟨c, hs, .inr hc⟩
    · exact (hs.2 b (Nat.ne_of_lt (Nat.lt_of_lt_of_le (Heap.lt_size e) (I.ok.cab x c hfn hc)))).trans (I.base.keep b o e n hb hx)
    · obtain ⟨sl, e1⟩ := I.base.slot b o e n hb hx
      exact ⟨sl, (hs.2 b (Nat.ne_of_lt (Nat.lt_of_lt_of_le (Heap.lt_size e) (I.ok.cab x c hfn hc)))).trans e1⟩
    · obtain ⟨o', e1⟩ := I.base.there b o e hx
      exact ⟨o', (hs.2 b (Nat.ne_of_lt (Nat.lt_of_lt_of_le (Heap.lt_size e) (I.ok.cab x c hfn hc)))).trans e1⟩
    · by_cases hj : j = i
      · subst hj
        rw [hi] at e1; cases e1
        rw [List.getElem?_set_self hiσ] at e2
        cases e2
        exact ⟨u, r, .inr ⟨.inl hk, c, hc, hc'⟩⟩
      · rw [List.getElem?_set_ne (Ne.symm hj)] at e2
        obtain ⟨u', r', q⟩ := hl j y v' e1 e2 e3
        refine ⟨u', r', ?_⟩
        rcases q with q | ⟨k, c', e, z'⟩
        · exact .inl q
        · refine .inr ⟨k, c', e, z'.sameBut hs ?_⟩
          rintro rfl
          exact hj (nodup_ix hN e1 (I.ok.inj _ _ _ e hc ▸ hi))
    · by_cases hcc : c' = c
      · subst hcc; exact ⟨_, hc'⟩
      · obtain ⟨w2, z2⟩ := I.cell y c' e
        exact ⟨w2, z2.sameBut hs hcc⟩
    · obtain ⟨e, n, ne, nf, d⟩ := I.pin p hp
      refine ⟨(hs.2 p.1 ?_).trans e, n, ne, nf, d⟩
      intro q
      rw [q, hoc] at e
      have q' : oc = p.2 := Option.some.inj e
      exact d w' (by rw [← q']; exact hocd)
theorem store_ok {M : Model} {A : Around} {E : Value → Shared → Prop} {i : Nat} {x : Str} {v : V} {u : Value} {Q : Unit → Shared → Prop} (I : Inv X pins σ H s) (hN : X.N.Nodup) (hi : X.N[i]? = some x) (hx : Loc X.env.scope x) (r : RelV v u)
    (h : ∀ s', Inv X pins (σ.set i (some v)) H s' → Q () s') (hf : X.fn x = true ∨ X.env.scope.names.lookup x = some .local := by first | exact .inl rfl | exact .inr rfl | assumption) : wpAny M A (storeName X.env x u) Q E s :=
  store_ok2 I hN hi hx r (fun s' I' _ => h s' I') hf
/-- behind a call or a block, the state as it is -/
theorem Inv.call' {s' : Shared} {ch : List Addr} (I : Inv X pins σ H s) (ho : s'.os = s.os) (u : Un (frs X.stack) ch H H' s.heap s'.heap) (hok : HOk X.prog X.w H' s'.heap) (hg : AllBare s'.gens)
    (hch : ∀ b ∈ ch, (b ∈ X.ex ∨ X.s₀.heap.objs.size ≤ b) ∧ b ≠ X.env.locals ∧ (∀ x c, X.env.cells.lookup x = some c → c ≠ b) ∧ ∀ p ∈ X.pn ++ pins, p.1 ≠ b) : Inv X pins σ H' s' := by
  obtain ⟨h', g', d', t', o'⟩ := s'
  have e : o' = s.os := ho
  subst e
  exact I.call (g' := g') (t' := t') (d' := d') u hok hg hch
end

/-! ### the judgements -/
/-- an exception: its class, its own dict's address (where it has one), the abstract heap behind it -/
abbrev XK := Value → Option Addr → Hp → Prop
abbrev St := List (Option V)
abbrev VK := V → Hp → Prop
/-- an expression's reading; a test's; an argument list's -/
abbrev TE := St → Hp → VK → Prop
abbrev TT := St → Hp → (Bool → Hp → Prop) → Prop
abbrev TA := St → Hp → (List V → Hp → Prop) → Prop
/-- what is wanted behind a statement -/
structure Ends where
  nx : St → Hp → Prop
  rt : VK
  bk : St → Hp → Prop := fun _ _ => False
  ct : St → Hp → Prop := fun _ _ => False
abbrev TS := Ends → St → Hp → Prop

def EP (X : Cx) (pins : List (Addr × Obj)) (σ : St) (Q : VK) (u : Value) (s' : Shared) : Prop := ∃ v H', Inv X pins σ H' s' ∧ RelV v u ∧ Q v H'
def TP (X : Cx) (pins : List (Addr × Obj)) (σ : St) (Q : Bool → Hp → Prop) (b : Bool) (s' : Shared) : Prop := ∃ H', Inv X pins σ H' s' ∧ Q b H'
def AP (X : Cx) (pins : List (Addr × Obj)) (σ : St) (Q : List V → Hp → Prop) (us : List Value) (s' : Shared) : Prop := ∃ vs H', Inv X pins σ H' s' ∧ Vals vs us ∧ Q vs H'
def SP (X : Cx) (pins : List (Addr × Obj)) (D : Ends) (f : Flow) (s' : Shared) : Prop :=
  match f with
  | .next => ∃ σ' H', Inv X pins σ' H' s' ∧ D.nx σ' H'
  | .brk => ∃ σ' H', Inv X pins σ' H' s' ∧ D.bk σ' H'
  | .cont => ∃ σ' H', Inv X pins σ' H' s' ∧ D.ct σ' H'
  | .ret u => ∃ v σ' H', Inv X pins σ' H' s' ∧ RelV v u ∧ D.rt v H'

def PE (X : Cx) (e : Expr) (t : TE) : Prop :=
  ∀ (pins : List (Addr × Obj)) (s : Shared) (σ : St) (H : Hp) (Q : VK), Inv X pins σ H s → t σ H Q → wpAny (model X.prog X.w) X.A (eval e X.env) (EP X pins σ Q) X.xe s
def PT (X : Cx) (e : Expr) (t : TT) : Prop :=
  ∀ (pins : List (Addr × Obj)) (s : Shared) (σ : St) (H : Hp) (Q : Bool → Hp → Prop), Inv X pins σ H s → t σ H Q → wpAny (model X.prog X.w) X.A (isTrue e X.env (eval e X.env)) (TP X pins σ Q) X.xe s
/-- a test whatever its 'whole' is (and, or) -/
def PW (X : Cx) (e : Expr) (t : TT) : Prop :=
  ∀ (whole : Sem Value) (pins : List (Addr × Obj)) (s : Shared) (σ : St) (H : Hp) (Q : Bool → Hp → Prop), Inv X pins σ H s → t σ H Q → wpAny (model X.prog X.w) X.A (isTrue e X.env whole) (TP X pins σ Q) X.xe s
theorem PW.pt {X : Cx} {e : Expr} {t : TT} (h : PW X e t) : PT X e t := h _
/-- an argument list (no star), from the left -/
def PA (X : Cx) (es : List Expr) (t : TA) : Prop :=
  ∀ (pos : Pos) (pins : List (Addr × Obj)) (s : Shared) (σ : St) (H : Hp) (Q : List V → Hp → Prop), Inv X pins σ H s → t σ H Q → wpAny (model X.prog X.w) X.A (spliced (backTo pos (starEach es X.env))) (AP X pins σ Q) X.xe s
def PS (X : Cx) (st : Stmt) (t : TS) : Prop :=
  ∀ (pins : List (Addr × Obj)) (s : Shared) (σ : St) (H : Hp) (D : Ends), Inv X pins σ H s → t D σ H → wpAny (model X.prog X.w) X.A (exec st X.env) (SP X pins D) X.xe s
def PSs (X : Cx) (st : List Stmt) (t : TS) : Prop :=
  ∀ (pins : List (Addr × Obj)) (s : Shared) (σ : St) (H : Hp) (D : Ends), Inv X pins σ H s → t D σ H → wpAny (model X.prog X.w) X.A (execs st X.env) (SP X pins D) X.xe s
/-- weaken the end -/
theorem thn {α : Type} {t : Sem α} {Q Q' : α → Shared → Prop} {M : Model} {A : Around} {E : Value → Shared → Prop} {s : Shared} (h : wpAny M A t Q E s) (hQ : ∀ a s, Q a s → Q' a s) : wpAny M A t Q' E s := wpAny_mono h hQ fun _ _ x => x
end L2

namespace L2
open PySem PySem.Spec PyProof.Rows
section
variable {X : Cx}


/-! ### names and constants -/
def tVar (i : Nat) : TE := fun σ H Q => ∃ v, σ[i]? = some (some v) ∧ Q v H
def tC (v : V) : TE := fun _ H Q => Q v H
theorem pe_var {i : Nat} {x : Str} {pos : Pos} (hN : X.N[i]? = some x) (hv : Vis X.env.scope x) (hd : (x == ("__debug__" : Str)) = false := by decide) (hcd : (x == ("__classdict__" : Str)) = false := by decide) : PE X (.Name x pos) (tVar i) := by
  intro pins s σ H Q I h
  obtain ⟨v, e, h⟩ := h
  obtain ⟨m, hn, hl⟩ := I.loc
  obtain ⟨u, r, l⟩ := hl i x v hN e hv
  have fin : EP X pins σ Q u s := ⟨v, H, I, r, h⟩
  rcases l with ⟨hk, hm⟩ | ⟨hk, c, hc, hcell⟩
  · exact wpAny_Name (wpAny_loadName_local I.ok.kind hk hn hm fin) hd
  · rcases hk with hk | hk
    · exact wpAny_Name (wpAny_loadName_cell I.ok.kind hk hc hcell fin) hd
    · exact wpAny_Name (wpAny_loadName_free I.ok.kind hk hc hcell fin hcd) hd
theorem pe_int {i j pos} : PE X (.Constant (.int i) j pos) (tC (.int i)) := fun _ _ _ H _ I h => wpAny_Constant_int ⟨.int i, H, I.tok _, ⟨_, rfl⟩, h⟩
theorem pe_bl {b j pos} : PE X (.Constant (.bool b) j pos) (tC (.bl b)) := fun _ _ _ H _ I h => Constant_bool ⟨.bl b, H, I, rfl, h⟩

/-- a global name of the def -/
def Gl (X : Cx) (x : Str) : Prop := X.env.kindOf x = some .globalImplicit
theorem ld_glob {E : Value → Shared → Prop} {pins : List (Addr × Obj)} {s : Shared} {σ : St} {H : Hp} {x : Str} {u : Value} {pos : Pos} {Q : Value → Shared → Prop} (I : Inv X pins σ H s) (hg : Gl X x) (hm : X.mg x = some u) (h : Q u s)
    (hd : (x == ("__debug__" : Str)) = false := by decide) : wpAny (model X.prog X.w) X.A (eval (.Name x pos) X.env) Q E s :=
  Calls.Name_function_global I.ok.kind hg (Calls.loadGlobal_global (by rw [I.ok.glob]; exact I.mod.glob.keeps I.bk) hm h) hd
theorem ld_blt {E : Value → Shared → Prop} {pins : List (Addr × Obj)} {s : Shared} {σ : St} {H : Hp} {x : Str} {u : Value} {pos : Pos} {Q : Value → Shared → Prop} (I : Inv X pins σ H s) (hg : Gl X x) (hm : X.mg x = none) (hv : bootBuiltins x = some u) (h : Q u s)
    (hn : x ≠ "__name__" := by decide) (hd : (x == ("__debug__" : Str)) = false := by decide) : wpAny (model X.prog X.w) X.A (eval (.Name x pos) X.env) Q E s := by
  obtain ⟨mb, h1, h2⟩ := I.mod.blt
  exact Calls.Name_function_global I.ok.kind hg (Calls.loadGlobal_builtin (by rw [I.ok.glob]; exact I.mod.glob.keeps I.bk) hm (by rw [I.ok.blt]; exact h1.keeps I.bk) ((h2 x hn).trans hv) h) hd
/-- a module's constant, a class, a function, as a value -/
theorem pe_glob {x : Str} {v : V} {u : Value} {pos : Pos} (hg : Gl X x) (hm : X.mg x = some u) (r : RelV v u) (hd : (x == ("__debug__" : Str)) = false := by decide) : PE X (.Name x pos) (tC v) :=
  fun _ _ _ H _ I h => ld_glob I hg hm ⟨v, H, I, r, h⟩ hd
theorem pe_bltn {x : Str} {v : V} {u : Value} {pos : Pos} (hg : Gl X x) (hm : X.mg x = none) (hv : bootBuiltins x = some u) (r : RelV v u) (hn : x ≠ "__name__" := by decide) (hd : (x == ("__debug__" : Str)) = false := by decide) : PE X (.Name x pos) (tC v) :=
  fun _ _ _ H _ I h => ld_blt I hg hm hv ⟨v, H, I, r, h⟩ hn hd

/-! ### arithmetic -/
/-- two ints -/
def t2I (ta tb : TE) (k : Int → Int → Hp → Prop) : St → Hp → Prop := fun σ H => ta σ H fun x H1 => tb σ H1 fun y H2 => ∃ i j, x = .int i ∧ y = .int j ∧ k i j H2
def tAdd (ta tb : TE) : TE := fun σ H Q => t2I ta tb (fun i j H2 => Q (.int (i + j)) H2) σ H
def tSub (ta tb : TE) : TE := fun σ H Q => t2I ta tb (fun i j H2 => Q (.int (i - j)) H2) σ H
/-- the left factor below 2^64 -/
def tMul (ta tb : TE) : TE := fun σ H Q => t2I ta tb (fun i j H2 => (-(2 ^ 64) < i ∧ i < 2 ^ 64) ∧ Q (.int (i * j)) H2) σ H
variable {a b : Expr} {ta tb : TE} {pos : Pos}

/-! ### comparisons -/
def PC (X : Cx) (op : CmpOp) (a b : Expr) (t : TE) : Prop :=
  ∀ (pins : List (Addr × Obj)) (s : Shared) (σ : St) (H : Hp) (Q : VK), Inv X pins σ H s → t σ H Q →
    wpAny (model X.prog X.w) X.A (eval a X.env) (fun v s₁ => wpAny (model X.prog X.w) X.A (eval b X.env) (fun u s₂ => wpAny (model X.prog X.w) X.A (compareOp op v u) (EP X pins σ Q) X.xe s₂) X.xe s₁) X.xe s
theorem nobehind (b : Expr) {op : CmpOp} (h : op ≠ .In) (h2 : op ≠ .NotIn) : behindInMarks op b = false := by
  have e1 : (op == CmpOp.In) = false := by cases op <;> first | rfl | exact absurd rfl h
  have e2 : (op == CmpOp.NotIn) = false := by cases op <;> first | rfl | exact absurd rfl h2
  cases b <;> simp [behindInMarks, e1, e2]
def tCmp (p : Int → Int → Bool) (ta tb : TE) : TE := fun σ H Q => t2I ta tb (fun i j H2 => Q (.bl (p i j)) H2) σ H
abbrev tLt : TE → TE → TE := tCmp fun i j => decide (i < j)
abbrev tLe : TE → TE → TE := tCmp fun i j => decide (i ≤ j)
abbrev tGt : TE → TE → TE := tCmp fun i j => decide (j < i)
abbrev tGe : TE → TE → TE := tCmp fun i j => decide (j ≤ i)
abbrev tEqI : TE → TE → TE := tCmp fun i j => decide (i = j)
abbrev tNeI : TE → TE → TE := tCmp fun i j => !decide (i = j)
/-- is None -/
def tIsN (ta : TE) : TE := fun σ H Q => ta σ H fun x H1 => Q (.bl (decide (x = .non))) H1
def tNotN (ta : TE) : TE := fun σ H Q => ta σ H fun x H1 => Q (.bl (!decide (x = .non))) H1
theorem RelV.none_iff {x : V} {v : Value} (r : RelV x v) : (v == Value.none) = decide (x = .non) := by
  cases x with
  | non => cases r; rfl
  | bl _ => cases r; rfl
  | int _ => obtain ⟨t, rfl⟩ := r; rfl
  | str _ => obtain ⟨t, rfl⟩ := r; rfl
  | byt _ => obtain ⟨t, rfl⟩ := r; rfl
  | flt _ => obtain ⟨t, rfl⟩ := r; rfl
  | ref _ => cases r; rfl
  | ty _ => cases r; rfl
theorem pc_notN {j pos'} (ha : PE X a ta) : PC X .IsNot a (.Constant .none j pos') (tNotN ta) := by
  intro pins s σ H Q I h
  refine thn (ha pins s σ H _ I h) fun v s1 ⟨x, H1, I1, r1, q1⟩ => ?_
  exact Constant_none (isnot_none_gen ⟨.bl _, H1, I1, by rw [r1.none_iff]; rfl, q1⟩)
/-- a comparison as a value, as a test -/
def tB (t : TE) : TT := fun σ H Q => t σ H fun x H1 => ∃ c, x = .bl c ∧ Q c H1
theorem pt_cmp {op : CmpOp} {t : TE} (h : PC X op a b t) (h1 : behindInMarks op b = false := by first | exact nobehind _ (by decide) (by decide) | rfl) : PT X (.Compare a [op] [b] pos) (tB t) := by
  intro pins s σ H Q I hw
  refine wpAny_isTrue_Compare1 (thn (h pins s σ H _ I hw) fun v s1 h1 => thn h1 fun u s2 h2 => thn h2 fun c s3 ⟨x, H1, I1, r1, q1⟩ => ?_) h1
  obtain ⟨d, rfl, q⟩ := q1
  cases r1
  exact wpAny_truthy_bool ⟨H1, I1, q⟩
/-- an expression whose value is a bool, as a test -/
theorem pt_val {e : Expr} {t : TE} (h : PE X e t) (he : ∀ whole, isTrue e X.env whole = (do let v ← whole; standAt e.pos; holding [v] (truthy v)) := by intro _; rfl) : PT X e (tB t) := by
  intro pins s σ H Q I hw
  refine isTrue_plain (thn (h pins s σ H _ I hw) fun v s1 ⟨x, H1, I1, r1, q1⟩ => ?_) (he _)
  obtain ⟨d, rfl, q⟩ := q1
  cases r1
  exact wpAny_truthy_bool ⟨H1, I1, q⟩

/-! ### and, or, not -/
variable {tA tB' : TT} {rest : List Expr}
def tAnd (t u : TT) : TT := fun σ H Q => t σ H fun c H1 => if c = true then u σ H1 Q else Q false H1
def tOr (t u : TT) : TT := fun σ H Q => t σ H fun c H1 => if c = true then Q true H1 else u σ H1 Q
def tNot (t : TT) : TT := fun σ H Q => t σ H fun c H1 => Q (!c) H1
theorem pw_and1 (ha : PT X a tA) : PW X (.BoolOp .And [a] pos) tA := by
  intro wh pins s σ H Q I h
  refine isTrue_and (thn (ha pins s σ H Q I h) fun c s1 e => ?_)
  cases c with
  | true => exact isTrue_and_nil e
  | false => exact e
theorem pw_or1 (ha : PT X a tA) : PW X (.BoolOp .Or [a] pos) tA := by
  intro wh pins s σ H Q I h
  refine isTrue_or (thn (ha pins s σ H Q I h) fun c s1 e => ?_)
  cases c with
  | false => exact isTrue_or_nil e
  | true => exact e
theorem pw_and (ha : PT X a tA) (hb : PW X (.BoolOp .And (b :: rest) pos) tB') : PW X (.BoolOp .And (a :: b :: rest) pos) (tAnd tA tB') := by
  intro wh pins s σ H Q I h
  refine isTrue_and (thn (ha pins s σ H _ I h) fun c s1 ⟨H1, I1, q1⟩ => ?_)
  cases c with
  | true => exact hb wh pins s1 σ H1 Q I1 q1
  | false => exact ⟨H1, I1, q1⟩
theorem pw_or (ha : PT X a tA) (hb : PW X (.BoolOp .Or (b :: rest) pos) tB') : PW X (.BoolOp .Or (a :: b :: rest) pos) (tOr tA tB') := by
  intro wh pins s σ H Q I h
  refine isTrue_or (thn (ha pins s σ H _ I h) fun c s1 ⟨H1, I1, q1⟩ => ?_)
  cases c with
  | true => exact ⟨H1, I1, q1⟩
  | false => exact hb wh pins s1 σ H1 Q I1 q1
theorem pt_not (ha : PT X a tA) : PT X (.UnaryOp .Not a pos) (tNot tA) := by
  intro pins s σ H Q I h
  exact isTrue_not (ha pins s σ H (fun c H1 => Q (!c) H1) I h)
/-- .. as values (bools) -/
def tAndV (ta tb : TE) : TE := fun σ H Q => ta σ H fun x H1 => ∃ c, x = .bl c ∧ if c = true then tb σ H1 Q else Q (.bl false) H1
def tOrV (ta tb : TE) : TE := fun σ H Q => ta σ H fun x H1 => ∃ c, x = .bl c ∧ if c = true then Q (.bl true) H1 else tb σ H1 Q
def tNotV (ta : TE) : TE := fun σ H Q => ta σ H fun x H1 => ∃ c, x = .bl c ∧ Q (.bl (!c)) H1
theorem pe_one {op} {t : TE} (h : PE X a t) : PE X (.BoolOp op [a] pos) t := fun pins s σ H Q I hw => BoolOp_one (h pins s σ H Q I hw)
theorem pe_and (ha : PE X a ta) (hb : PE X (.BoolOp .And (b :: rest) pos) tb) : PE X (.BoolOp .And (a :: b :: rest) pos) (tAndV ta tb) := by
  intro pins s σ H Q I h
  refine BoolOp_and (thn (ha pins s σ H _ I h) fun v s1 ⟨x, H1, I1, r1, q1⟩ => ?_)
  obtain ⟨c, rfl, q1⟩ := q1
  cases r1
  refine wpAny_truthy_bool ?_
  cases c with
  | true => exact hb pins s1 σ H1 Q I1 q1
  | false => exact ⟨.bl false, H1, I1, rfl, q1⟩
theorem pe_not (ha : PE X a ta) : PE X (.UnaryOp .Not a pos) (tNotV ta) := by
  intro pins s σ H Q I h
  refine UnaryOp_ (thn (ha pins s σ H _ I h) fun v s1 ⟨x, H1, I1, r1, q1⟩ => ?_)
  obtain ⟨c, rfl, q1⟩ := q1
  cases r1
  exact not_of (wpAny_truthy_bool ⟨.bl (!c), H1, I1, rfl, q1⟩)
/-- a if t else b -/
def tIf (t : TT) (ta tb : TE) : TE := fun σ H Q => t σ H fun c H1 => if c = true then ta σ H1 Q else tb σ H1 Q
end
end L2

namespace L2
open PySem PySem.Spec PyProof.Rows

/-! ### a list, a tuple that is read: tracked, frozen, or an object of the module -/
def SqL (K : PySem.W.Frag) (H : Hp) (a : Addr) (xs : List V) : Prop :=
  Rd H a (.lst xs) ∨
    ∃ (o : Obj) (its : Array Value) (n : Nat), K.lookup a = some o ∧ o.cls = .type "list" ∧ o.dict = none ∧ o.data = .seq its n ∧ its.size ≤ sizeLine ∧ Vals xs its.toList
def SqT (K : PySem.W.Frag) (H : Hp) (a : Addr) (xs : List V) : Prop :=
  Rd H a (.tup xs) ∨
    ∃ (o : Obj) (its : Array Value) (n : Nat), K.lookup a = some o ∧ o.cls = .type "tuple" ∧ o.data = .seq its n ∧ its.size ≤ sizeLine ∧ Vals xs its.toList
def absV : Value → Option V
  | .none => some .non
  | .bool b => some (.bl b)
  | .int i _ => some (.int i)
  | .str x _ => some (.str x)
  | .bytes b _ => some (.byt b)
  | .float b _ => some (.flt b)
  | .ref a => some (.ref a)
  | .type n => some (.ty n)
  | _ => none
theorem RelV.abs {x : V} {u : Value} (r : RelV x u) : absV u = some x := by
  cases x with
  | non => cases r; rfl
  | bl _ => cases r; rfl
  | int _ => obtain ⟨t, rfl⟩ := r; rfl
  | str _ => obtain ⟨t, rfl⟩ := r; rfl
  | byt _ => obtain ⟨t, rfl⟩ := r; rfl
  | flt _ => obtain ⟨t, rfl⟩ := r; rfl
  | ref _ => cases r; rfl
  | ty _ => cases r; rfl
theorem RelV.inj {x y : V} {u : Value} (r : RelV x u) (q : RelV y u) : x = y := Option.some.inj (r.abs.symm.trans q.abs)
theorem Vals.inj : ∀ {xs ys : List V} {us : List Value}, Vals xs us → Vals ys us → xs = ys
  | _, _, _, .nil, .nil => rfl
  | _, _, _, .cons r t, .cons r' t' => by rw [r.inj r', Vals.inj t t']
section
variable {X : Cx} {pins : List (Addr × Obj)} {σ : St} {H : Hp} {s : Shared} {a : Addr} {xs ys : List V}
theorem SqL.of {K : PySem.W.Frag} (h : H a = some (.lst xs)) : SqL K H a xs := .inl (.inl h)
theorem SqT.of {K : PySem.W.Frag} (h : H a = some (.tup xs)) : SqT K H a xs := .inl (.inl h)
theorem Inv.list (I : Inv X pins σ H s) (h : SqL X.K H a xs) : ∃ its : List Value, Vals xs its ∧ PlainL s.heap a its.toArray ∧ xs.length ≤ sizeLine := by
  rcases h with h | ⟨o, its, n, hk, hc, hd, hs, hz, r⟩
  · obtain ⟨z, its, n, r, e⟩ := h.ok I.hok
    exact ⟨its, r, ⟨_, n, e, rfl, rfl, rfl⟩, z⟩
  · refine ⟨its.toList, r, ⟨o, n, I.kIn a o hk, hc, hd, by simpa using hs⟩, ?_⟩
    have e := r.length
    simp only [Array.length_toList] at e
    omega
theorem Inv.tuple (I : Inv X pins σ H s) (h : SqT X.K H a xs) : ∃ its : List Value, Vals xs its ∧ IsTup s.heap a its.toArray ∧ xs.length ≤ sizeLine := by
  rcases h with h | ⟨o, its, n, hk, hc, hs, hz, r⟩
  · obtain ⟨z, its, r, p⟩ := h.ok I.hok
    exact ⟨its, r, p, z⟩
  · refine ⟨its.toList, r, ⟨o, I.kIn a o hk, hc, n, by simpa using hs⟩, ?_⟩
    have e := r.length
    simp only [Array.length_toList] at e
    omega
theorem Inv.list_inj (I : Inv X pins σ H s) (h : SqL X.K H a xs) (h' : SqL X.K H a ys) : xs = ys := by
  obtain ⟨its, r, ⟨o, n, e, _, _, d⟩, _⟩ := I.list h
  obtain ⟨its', r', ⟨o', n', e', _, _, d'⟩, _⟩ := I.list h'
  rw [e] at e'; cases e'
  rw [d] at d'
  injection d' with d1 _
  have : its = its' := by simpa using congrArg Array.toList d1
  subst this
  exact r.inj r'
theorem Inv.tuple_inj (I : Inv X pins σ H s) (h : SqT X.K H a xs) (h' : SqT X.K H a ys) : xs = ys := by
  obtain ⟨its, r, ⟨o, e, _, n, d⟩, _⟩ := I.tuple h
  obtain ⟨its', r', ⟨o', e', _, n', d'⟩, _⟩ := I.tuple h'
  rw [e] at e'; cases e'
  rw [d] at d'
  injection d' with d1 _
  have : its = its' := by simpa using congrArg Array.toList d1
  subst this
  exact r.inj r'
end

/-! ### another wish about exceptions -/
abbrev Cx.wish (X : Cx) (E : Value → Shared → Prop) : Cx := { X with xe := E }
/-- no exception leaves -/
abbrev Cx.nox (X : Cx) : Cx := X.wish fun _ _ => False
theorem Cx.Ok.wish {X : Cx} (ok : X.Ok) (E : Value → Shared → Prop) : (X.wish E).Ok :=
  ⟨ok.mod, ok.kind, ok.glob, ok.blt, ok.above, ok.inj, ok.has, ok.cab, ok.hd, ok.frames, ok.stk, ok.exf, ok.bs, ok.bsz, ok.noex, ok.exfs, ok.funs, ok.frf⟩
theorem Cx.Ok.unwish {X : Cx} {E : Value → Shared → Prop} (ok : (X.wish E).Ok) : X.Ok :=
  ⟨ok.mod, ok.kind, ok.glob, ok.blt, ok.above, ok.inj, ok.has, ok.cab, ok.hd, ok.frames, ok.stk, ok.exf, ok.bs, ok.bsz, ok.noex, ok.exfs, ok.funs, ok.frf⟩
section
variable {X : Cx} {pins : List (Addr × Obj)} {σ : St} {H : Hp} {s : Shared} {E : Value → Shared → Prop}
theorem Inv.wish (I : Inv X pins σ H s) (E : Value → Shared → Prop) : Inv (X.wish E) pins σ H s := ⟨I.ok.wish E, I.os, I.bare, I.base, I.loc, I.cell, I.free, I.freeC, I.pin, I.hok, I.len⟩
theorem Inv.unwish (I : Inv (X.wish E) pins σ H s) : Inv X pins σ H s := ⟨I.ok.unwish, I.os, I.bare, I.base, I.loc, I.cell, I.free, I.freeC, I.pin, I.hok, I.len⟩
theorem SP.unwish {D : Ends} {f : Flow} {s' : Shared} (h : SP (X.wish E) pins D f s') : SP X pins D f s' := by
  cases f with
  | next => obtain ⟨σ', H', I, q⟩ := h; exact ⟨σ', H', I.unwish, q⟩
  | brk => obtain ⟨σ', H', I, q⟩ := h; exact ⟨σ', H', I.unwish, q⟩
  | cont => obtain ⟨σ', H', I, q⟩ := h; exact ⟨σ', H', I.unwish, q⟩
  | ret u => obtain ⟨v, σ', H', I, r, q⟩ := h; exact ⟨v, σ', H', I.unwish, r, q⟩
theorem PSs.nox {st : List Stmt} {t : TS} (h : PSs X.nox st t) : PSs X st t := fun pins s σ H D I hw =>
  wpAny_mono (h pins s σ H D (I.wish _) hw) (fun _ _ q => q.unwish) fun _ _ z => False.elim z
end

/-! ### blocks and small statements -/
section
variable {X : Cx} {st : Stmt} {rest : List Stmt} {t u : TS} {e : Expr} {te : TE} {pos : Pos}
def tNext : TS := fun D σ H => D.nx σ H
def tSeq (t u : TS) : TS := fun D σ H => t { D with nx := u D } σ H
theorem pss_nil : PSs X [] tNext := fun _ _ σ H _ I h => wpAny_execs_nil ⟨σ, H, I, h⟩
theorem pss_cons (h1 : PS X st t) (h2 : PSs X rest u) : PSs X (st :: rest) (tSeq t u) := by
  intro pins s σ H D I h
  refine wpAny_execs_cons (thn (h1 pins s σ H { D with nx := u D } I h) fun f s1 q => ?_)
  cases f with
  | next =>
    obtain ⟨σ', H', I', q⟩ := q
    exact h2 pins s1 σ' H' D I' q
  | ret v => exact q
  | brk => exact q
  | cont => exact q
theorem pss_one (h1 : PS X st t) : PSs X [st] t := by
  intro pins s σ H D I h
  refine wpAny_execs_cons (thn (h1 pins s σ H D I h) fun f s1 q => ?_)
  cases f with
  | next => exact wpAny_execs_nil q
  | ret v => exact q
  | brk => exact q
  | cont => exact q
def tBreak : TS := fun D σ H => D.bk σ H
def tCont : TS := fun D σ H => D.ct σ H
/-- in a def's body nothing is shown -/
theorem Inv.quiet {pins : List (Addr × Obj)} {σ : St} {H : Hp} {s : Shared} (I : Inv X pins σ H s) : interactive X.env = false := by simp [interactive, I.ok.kind]
/-- an expression whose value is dropped -/
def tDrop (te : TE) : TS := fun D σ H => te σ H fun _ H1 => D.nx σ H1
theorem ps_expr (he : PE X e te) (hs : swapsWith e none pos.line X.env = pure false := by rfl) : PS X (.Expr e pos) (tDrop te) := by
  intro pins s σ H D I h
  exact wpAny_Expr_any (thn (he pins s σ H _ I h) fun v s1 ⟨x, H1, I1, r1, q1⟩ => ⟨σ, H1, I1, q1⟩) I.quiet hs
def tRet (te : TE) : TS := fun D σ H => te σ H D.rt
theorem ps_ret (he : PE X e te) : PS X (.Return (some e) pos) (tRet te) := by
  intro pins s σ H D I h
  exact wpAny_Return_some (thn (he pins s σ H _ I h) fun v s1 ⟨x, H1, I1, r1, q1⟩ => ⟨x, σ, H1, I1, r1, q1⟩)
def tRetN : TS := fun D _ H => D.rt .non H
def tIfS (c : TT) (t u : TS) : TS := fun D σ H => c σ H fun b H1 => if b = true then t D σ H1 else u D σ H1
theorem ps_if {c : Expr} {a b : List Stmt} {tc : TT} (hc : PT X c tc) (ha : PSs X a t) (hb : PSs X b u) : PS X (.If c a b pos) (tIfS tc t u) := by
  intro pins s σ H D I h
  refine wpAny_If (thn (hc pins s σ H _ I h) fun d s1 ⟨H1, I1, q1⟩ => ?_)
  cases d with
  | true => exact ha pins s1 σ H1 D I1 q1
  | false => exact hb pins s1 σ H1 D I1 q1
/-- code that the proof never comes to -/
def tNever : TS := fun _ _ _ => False
end

/-! ### targets -/
abbrev TG := V → St → Hp → (St → Hp → Prop) → Prop
abbrev TGs := List V → St → Hp → (St → Hp → Prop) → Prop
def PG (X : Cx) (target : Expr) (t : TG) : Prop :=
  ∀ (pins : List (Addr × Obj)) (s : Shared) (σ : St) (H : Hp) (v : V) (u : Value) (Q : St → Hp → Prop), Inv X pins σ H s → RelV v u → t v σ H Q →
    wpAny (model X.prog X.w) X.A (assign target X.env u) (fun _ s' => ∃ σ' H', Inv X pins σ' H' s' ∧ Q σ' H') X.xe s
/-- several targets, one after another -/
def PGs (X : Cx) (ts : List Expr) (t : TGs) : Prop :=
  ∀ (pins : List (Addr × Obj)) (s : Shared) (σ : St) (H : Hp) (vs : List V) (us : List Value) (Q : St → Hp → Prop), Inv X pins σ H s → Vals vs us → t vs σ H Q →
    wpAny (model X.prog X.w) X.A (assignInOrder ((assignEach ts X.env).map (·.2)) us) (fun _ s' => ∃ σ' H', Inv X pins σ' H' s' ∧ Q σ' H') X.xe s
/-- o[i] = v, by values -/
abbrev TSet := V → V → V → Hp → (Hp → Prop) → Prop
def PSet (X : Cx) (t : TSet) : Prop :=
  ∀ (pins : List (Addr × Obj)) (s : Shared) (σ : St) (H : Hp) (o i v : V) (ov iv u : Value) (Q : Hp → Prop), Inv X pins σ H s → RelV o ov → RelV i iv → RelV v u → t o i v H Q →
    wpAny (model X.prog X.w) X.A (setItem ov iv u) (fun _ s' => ∃ H', Inv X pins σ H' s' ∧ Q H') X.xe s
/-- a op= b, by values -/
abbrev TIp := V → V → Hp → VK → Prop
def PIp (X : Cx) (op : Operator) (t : TIp) : Prop :=
  ∀ (pins : List (Addr × Obj)) (s : Shared) (σ : St) (H : Hp) (x y : V) (v u : Value) (Q : VK), Inv X pins σ H s → RelV x v → RelV y u → t x y H Q →
    wpAny (model X.prog X.w) X.A (inplaceOp op v u) (EP X pins σ Q) X.xe s
section
variable {X : Cx} {pos : Pos}
def gName (i : Nat) : TG := fun v σ H Q => Q (σ.set i (some v)) H
theorem pg_name {i : Nat} {x : Str} (hN : X.N.Nodup) (hi : X.N[i]? = some x) (hx : Loc X.env.scope x) (hf : X.fn x = true ∨ X.env.scope.names.lookup x = some .local := by first | exact .inl rfl | exact .inr rfl | assumption) : PG X (.Name x pos) (gName i) := by
  intro pins s σ H v u Q I r h
  exact wpAny_assign_Name (store_ok I hN hi hx r (fun s' I' => ⟨_, H, I', h⟩) hf)
def gNil : TGs := fun vs σ H Q => vs = [] ∧ Q σ H
def gCons (t : TG) (u : TGs) : TGs := fun vs σ H Q => ∃ v r, vs = v :: r ∧ t v σ H fun σ' H' => u r σ' H' Q
theorem pgs_nil : PGs X [] gNil := by
  intro pins s σ H vs us Q I r h
  obtain ⟨e, h⟩ := h
  subst e
  cases r
  exact assignInOrder_nil ⟨σ, H, I, h⟩
theorem pgs_cons {e : Expr} {es : List Expr} {t : TG} {u : TGs} (h1 : PG X e t) (h2 : PGs X es u)
    (hs : (assignEach (e :: es) X.env).map (·.2) = assign e X.env :: (assignEach es X.env).map (·.2) := by rfl) : PGs X (e :: es) (gCons t u) := by
  intro pins s σ H vs us Q I r h
  obtain ⟨v, vr, e1, h⟩ := h
  subst e1
  cases r with
  | cons r rr =>
    rw [hs]
    refine assignInOrder_cons (thn (h1 pins s σ H _ _ _ I r h) fun _ s1 ⟨σ1, H1, I1, q1⟩ => ?_)
    exact h2 pins s1 σ1 H1 _ _ Q I1 rr q1
/-- (a, b, ..) = a tuple of that length -/
def gTup (K : PySem.W.Frag) (n : Nat) (t : TGs) : TG := fun v σ H Q => ∃ a xs, v = .ref a ∧ SqT K H a xs ∧ xs.length = n ∧ t xs σ H Q
theorem pg_tup {es : List Expr} {k : Nat} {t : TGs} {n : Nat} (hc : X.calm = true) (h : PGs X es t)
    (hn : (assignEach es X.env).length = n := by rfl) (hst : (assignEach es X.env).findIdx? (·.1) = none := by rfl) : PG X (.Tuple es k pos) (gTup X.K n t) := by
  intro pins s σ H v u Q I r hw
  obtain ⟨a, xs, e1, hq, hl, hw⟩ := hw
  subst e1
  cases r
  obtain ⟨its, rv, ht, hz⟩ := I.tuple hq
  refine assign_Tuple_tuple (I.ok.hd hc) ht (by simp [hn, ← hl, rv.length]) hst fun h' hx => ?_
  have I1 : Inv X pins σ H { s with heap := h' } := I.kept (t' := s.toks) fun b o e => hx b o (Nat.ne_of_lt (Heap.lt_size e)) e
  exact h pins _ σ H xs _ Q I1 (by simpa using rv) hw
/-- o[i] = .. -/
def gSub (to ti : TE) (t : TSet) : TG := fun v σ H Q => to σ H fun o H1 => ti σ H1 fun i H2 => t o i v H2 fun H3 => Q σ H3
/-- target = value -/
def tAsg (te : TE) (g : TG) : TS := fun D σ H => te σ H fun x H1 => g x σ H1 D.nx
/-- name = value -/
theorem ps_set {i : Nat} {x : Str} {e : Expr} {te : TE} {pos' : Pos} (hN : X.N.Nodup) (hi : X.N[i]? = some x) (hx : Loc X.env.scope x) (he : PE X e te) (hs : swapsWith e (some (.Name x pos')) pos.line X.env = pure false := by rfl) (hf : X.fn x = true ∨ X.env.scope.names.lookup x = some .local := by first | exact .inl rfl | exact .inr rfl | assumption) :
    PS X (.Assign [.Name x pos'] e pos) (tAsg te (gName i)) := by
  intro pins s σ H D I h
  refine wpAny_Assign_Name (thn (he pins s σ H _ I h) fun v s1 ⟨y, H1, I1, r1, q1⟩ => ?_) hs
  exact store_ok I1 hN hi hx r1 (fun s2 I2 => ⟨_, H1, I2, q1⟩) hf
/-- a, b = x, y with plain local names: stored from the right; the pair itself is not tracked (the opening rows as in PyProof/Rows/TupAssign.lean:23) -/
def tPar (i j : Nat) (ta : TA) : TS := fun D σ H => ta σ H fun vs H1 => ∃ v w, vs = [v, w] ∧ D.nx ((σ.set i (some v)).set j (some w)) H1
/-- name op= e -/
def tAug (i : Nat) (te : TE) (ti : TIp) : TS := fun D σ H => ∃ x, σ[i]? = some (some x) ∧ te σ H fun y H1 => ti x y H1 fun z H2 => D.nx (σ.set i (some z)) H2
/-- o[i] op= e -/
def tAugS (to ti te : TE) (tget : V → V → Hp → VK → Prop) (tip : TIp) (tset : TSet) : TS := fun D σ H => to σ H fun o H1 => ti σ H1 fun i H2 => tget o i H2 fun x H3 => te σ H3 fun y H4 => tip x y H4 fun z H5 => tset o i z H5 fun H6 => D.nx σ H6
/-- o[i], by values -/
def PGet (X : Cx) (t : V → V → Hp → VK → Prop) : Prop :=
  ∀ (pins : List (Addr × Obj)) (s : Shared) (σ : St) (H : Hp) (o i : V) (ov iv : Value) (Q : VK), Inv X pins σ H s → RelV o ov → RelV i iv → t o i H Q →
    wpAny (model X.prog X.w) X.A (getItem ov iv) (EP X pins σ Q) X.xe s
/-- ints -/
def ipI (f : Int → Int → Int) : TIp := fun x y H Q => ∃ i j, x = .int i ∧ y = .int j ∧ Q (.int (f i j)) H
end

/-! ### while -/
section
variable {X : Cx} {pos : Pos}
/-- the invariant W with its measure -/
def tWhile (c : TT) (tb : TS) : TS := fun D σ H => ∃ W : Nat → St → Hp → Prop, (∃ m, W m σ H) ∧ ∀ m σ H, W m σ H →
  c σ H fun b H1 => if b = true then ∃ N : St → Hp → Prop, (∀ σ' H', N σ' H' → ∃ m', m' < m ∧ W m' σ' H') ∧ tb { D with nx := N, ct := N, bk := D.nx } σ H1 else D.nx σ H1
end

/-! ### what a loop or a comprehension walks -/
/-- at turn i: it yields x (the heap may grow), or it stops -/
structure It where
  go : Nat → Hp → Prop
  yld : Nat → Hp → V → Hp → Prop
  stop : Nat → Hp → Prop
/-- the iterator's own objects may turn: they are not the frame's, not pinned, younger than the entry (or a comprehension's own) -/
def FpOk (X : Cx) (pins : List (Addr × Obj)) (H : Hp) (b : Addr) : Prop :=
  H b = none ∧ b ≠ X.env.locals ∧ b ∉ X.fs ∧ (b ∈ X.ex ∨ X.s₀.heap.objs.size ≤ b) ∧ (∀ x c, X.env.cells.lookup x = some c → c ≠ b) ∧ ∀ p ∈ X.pn ++ pins, p.1 ≠ b
theorem Inv.fpOk {X : Cx} {pins : List (Addr × Obj)} {σ : St} {H H' : Hp} {s : Shared} {b : Addr} (I : Inv X pins σ H s) (hb : s.heap.objs.size ≤ b) (hn : H' b = none) : FpOk X pins H' b := by
  refine ⟨hn, Nat.ne_of_gt (Nat.lt_of_lt_of_le I.lt hb), I.nofs hb, .inr (Nat.le_trans I.sz hb), fun x c e z => ?_, fun p hp z => ?_⟩
  · obtain ⟨v, q⟩ := I.cell x c e
    exact absurd (Nat.lt_of_lt_of_le q.lt (by rw [z]; exact hb)) (Nat.lt_irrefl _)
  · exact absurd (Nat.lt_of_lt_of_le (Heap.lt_size (I.pin p hp).1) (by rw [z]; exact hb)) (Nat.lt_irrefl _)
structure Turn (P : Program) (w : World) (K : PySem.W.Frag) (tg : Expr) (J : It) (fp : List Addr) (it : Addr) (tn : Nat → Heap → Prop) : Prop where
  mem : it ∈ fp
  obj : ∀ i h, tn i h → ∀ b ∈ fp, ∃ o, h.get? b = some o ∧ ∀ v, o.data ≠ .cell v
  keep : ∀ i h h', tn i h → (∀ b ∈ fp, ∀ o, h.get? b = some o → h'.get? b = some o) → tn i h'
  item : ∀ (X : Cx), X.prog = P → X.w = w → X.K = K → X.calm = true → ∀ (i : Nat) (pins : List (Addr × Obj)) (s : Shared) (σ : St) (H : Hp) (E : Value → Shared → Prop), Inv X pins σ H s → (∀ b ∈ fp, FpOk X pins H b) → tn i s.heap → J.go i H →
    wpAny (model P w) X.A (pyNext (.ref it)) (fun r s1 => ∃ u, r = some u ∧
      wpAny (model P w) X.A (letOwnedTupleGo tg (.ref it) u) (fun _ s2 => ∃ x H', Inv X pins σ H' s2 ∧ RelV x u ∧ J.yld i H x H' ∧ tn (i + 1) s2.heap ∧ ∀ b ∈ fp, H' b = none) E s1) E s
  done : ∀ (X : Cx), X.prog = P → X.w = w → X.K = K → X.calm = true → ∀ (i : Nat) (pins : List (Addr × Obj)) (s : Shared) (σ : St) (H : Hp) (E : Value → Shared → Prop), Inv X pins σ H s → (∀ b ∈ fp, FpOk X pins H b) → tn i s.heap → J.stop i H →
    wpAny (model P w) X.A (pyNext (.ref it)) (fun r s1 => r = none ∧ Inv X pins σ H s1) E s
  self : ∀ (A : Around) (i : Nat) (s : Shared) (Q : Value → Shared → Prop) (E : Value → Shared → Prop), tn i s.heap → Q (.ref it) s → wpAny (model P w) A (pyIter (.ref it)) Q E s
abbrev TI := St → Hp → (It → Hp → Prop) → Prop
/-- an iterator has come -/
def PIE (X : Cx) (pins : List (Addr × Obj)) (σ : St) (tg : Expr) (R : It → Hp → Prop) (itv : Value) (s2 : Shared) : Prop :=
  ∃ (it : Addr) (fp : List Addr) (tn : Nat → Heap → Prop) (J : It) (H' : Hp), itv = .ref it ∧ Inv X pins σ H' s2 ∧ Turn X.prog X.w X.K tg J fp it tn ∧ tn 0 s2.heap ∧ (∀ b ∈ fp, FpOk X pins H' b) ∧ R J H'
def PI (X : Cx) (tg iter : Expr) (wi : TI) : Prop :=
  ∀ (pins : List (Addr × Obj)) (s : Shared) (σ : St) (H : Hp) (R : It → Hp → Prop), Inv X pins σ H s → wi σ H R →
    wpAny (model X.prog X.w) X.A (eval iter X.env) (fun v s1 => wpAny (model X.prog X.w) X.A (pyIter v) (PIE X pins σ tg R) X.xe s1) X.xe s

/-- the step ahead of the store is nothing for an iterator that keeps no tuple -/
theorem go_of {M : Model} {A : Around} {E : Value → Shared → Prop} {s : Shared} {tg : Expr} {it : Addr} {u : Value} {o : Obj} {n : String} {vs : Array Value} {Q : Unit → Shared → Prop} (ho : s.heap.get? it = some o) (hc : o.cls = .type n) (hd : o.data = .fields vs)
    (hn : ["enumerate", "zip", "dict_itemiterator", "dict_reverseitemiterator", "odict_iterator", "itertools.zip_longest", "itertools.pairwise"].contains n = false) (hQ : Q () s) : wpAny M A (letOwnedTupleGo tg (.ref it) u) Q E s := by
  unfold letOwnedTupleGo
  cases tg <;> first
    | exact wpAny_pure hQ
    | (cases u <;> first
        | exact wpAny_pure hQ
        | (refine wpAny_bind (wpAny_load ho ?_)
           rw [hc, hd]
           show wpAny M A (if (["enumerate", "zip", "dict_itemiterator", "dict_reverseitemiterator", "odict_iterator", "itertools.zip_longest", "itertools.pairwise"].contains n && vs[0]? == some (rawInt _)) = true then _ else _) Q E s
           rw [if_neg (by intro h; rw [hn, Bool.false_and] at h; cases h)]
           exact wpAny_pure hQ))

/-- the list at a, as it stands at each turn (a loop may append to it) -/
def Itl (K : PySem.W.Frag) (a : Addr) : It :=
  ⟨fun i H => ∃ xs x, SqL K H a xs ∧ xs[i]? = some x, fun i H x H' => H' = H ∧ ∀ xs, SqL K H a xs → xs[i]? = some x, fun i H => ∃ xs, SqL K H a xs ∧ xs.length ≤ i⟩
def Itt (K : PySem.W.Frag) (a : Addr) : It :=
  ⟨fun i H => ∃ xs x, SqT K H a xs ∧ xs[i]? = some x, fun i H x H' => H' = H ∧ ∀ xs, SqT K H a xs → xs[i]? = some x, fun i H => ∃ xs, SqT K H a xs ∧ xs.length ≤ i⟩
/-- lo, lo + 1, .. (n of them) -/
def Itr (lo : Int) (n : Nat) : It := ⟨fun i _ => i < n, fun i H x H' => H' = H ∧ x = .int (lo + i), fun i _ => n ≤ i⟩
theorem turn_list {P : Program} {w : World} {K : PySem.W.Frag} {tg : Expr} (a it : Addr) : Turn P w K tg (Itl K a) [it] it (fun i h => h.IsListIter it a i) where
  mem := by simp
  obj := fun i h st b hb => by
    have e : b = it := by simpa using hb
    subst e
    obtain ⟨o, e, c, d⟩ := st
    exact ⟨o, e, fun v z => by rw [d] at z; cases z⟩
  keep := fun i h h' st k => st.at fun o e => k it (by simp) o e
  item := by
    intro X hP hw hK hc i pins s σ H E I hf st hg
    subst hP hw hK
    obtain ⟨xs, x, hq, hx⟩ := hg
    obtain ⟨its, rv, p, hz⟩ := I.list hq
    obtain ⟨u, hu, ru⟩ := rv.get hx
    obtain ⟨f0, f1, f2, f3, f4, f5⟩ := hf it (by simp)
    refine wpAny_pyNext_list_item st p.isList (x := u) (by simpa using hu) fun h' st' sb => ?_
    have I1 : Inv X pins σ H { s with heap := h' } := I.turned (t' := s.toks) (fun b o hb e => (sb.2 b hb).trans e) f0 f1 f3 f4 f5
    obtain ⟨o, e, c, d⟩ := id st'
    exact ⟨u, rfl, go_of (s := { s with heap := h' }) e c d (by decide) ⟨x, H, I1, ru, ⟨rfl, fun ys hy => by rw [I.list_inj hy hq]; exact hx⟩, st', fun b hb => (hf b hb).1⟩⟩
  done := by
    intro X hP hw hK hc i pins s σ H E I hf st hg
    subst hP hw hK
    obtain ⟨xs, hq, hx⟩ := hg
    obtain ⟨its, rv, p, hz⟩ := I.list hq
    obtain ⟨f0, f1, f2, f3, f4, f5⟩ := hf it (by simp)
    have hl := rv.length
    exact wpAny_pyNext_list_end (I.ok.hd hc) st p.isList (by simp; omega) fun h' eb => ⟨rfl, I.turned (t' := s.toks) (fun b o hb e => eb b o hb e) f0 f1 f3 f4 f5⟩
  self := fun _ _ _ _ _ st h => wpAny_pyIter_listiter st h
theorem turn_tuple {P : Program} {w : World} {K : PySem.W.Frag} {tg : Expr} (a it : Addr) : Turn P w K tg (Itt K a) [it] it (fun i h => h.IsTupleIter it a i) where
  mem := by simp
  obj := fun i h st b hb => by
    have e : b = it := by simpa using hb
    subst e
    obtain ⟨o, e, c, d⟩ := st
    exact ⟨o, e, fun v z => by rw [d] at z; cases z⟩
  keep := fun i h h' st k => st.at fun o e => k it (by simp) o e
  item := by
    intro X hP hw hK hc i pins s σ H E I hf st hg
    subst hP hw hK
    obtain ⟨xs, x, hq, hx⟩ := hg
    obtain ⟨its, rv, p, hz⟩ := I.tuple hq
    obtain ⟨u, hu, ru⟩ := rv.get hx
    obtain ⟨f0, f1, f2, f3, f4, f5⟩ := hf it (by simp)
    refine wpAny_pyNext_tuple_item st (show s.heap.IsTuple a its.toArray from p) (x := u) (by simpa using hu) fun h' st' sb => ?_
    have I1 : Inv X pins σ H { s with heap := h' } := I.turned (t' := s.toks) (fun b o hb e => (sb.2 b hb).trans e) f0 f1 f3 f4 f5
    obtain ⟨o, e, c, d⟩ := id st'
    exact ⟨u, rfl, go_of (s := { s with heap := h' }) e c d (by decide) ⟨x, H, I1, ru, ⟨rfl, fun ys hy => by rw [I.tuple_inj hy hq]; exact hx⟩, st', fun b hb => (hf b hb).1⟩⟩
  done := by
    intro X hP hw hK hc i pins s σ H E I hf st hg
    subst hP hw hK
    obtain ⟨xs, hq, hx⟩ := hg
    obtain ⟨its, rv, p, hz⟩ := I.tuple hq
    obtain ⟨f0, f1, f2, f3, f4, f5⟩ := hf it (by simp)
    have hl := rv.length
    exact wpAny_pyNext_tuple_end (I.ok.hd hc) st (show s.heap.IsTuple a its.toArray from p) (by simp; omega) fun h' eb => ⟨rfl, I.turned (t' := s.toks) (fun b o hb e => eb b o hb e) f0 f1 f3 f4 f5⟩
  self := fun _ _ _ _ _ st h => wpAny_pyIter_tupleiter st h
theorem turn_range {P : Program} {w : World} {K : PySem.W.Frag} {tg : Expr} (it : Addr) (lo : Int) (n : Nat) : Turn P w K tg (Itr lo n) [it] it (fun i h => IsRangeIter h it (lo + (i : Nat) * 1) ((n : Int) - (i : Nat)) 1) where
  mem := by simp
  obj := fun i h st b hb => by
    have e : b = it := by simpa using hb
    subst e
    exact ⟨_, st, fun v z => by
      have z' : Data.fields _ = Data.cell v := z
      cases z'⟩
  keep := fun i h h' st k => k it (by simp) _ st
  item := by
    intro X hP hw hK hc i pins s σ H E I hf st hg
    subst hP hw hK
    obtain ⟨f0, f1, f2, f3, f4, f5⟩ := hf it (by simp)
    have W := Walks.range (prog := X.prog) (w := X.w) (I.ok.hd hc) it lo 1 n
    refine W.item i s _ _ hg st fun v h' tk hv st' kk => ?_
    obtain ⟨t, rfl⟩ := hv
    have I1 : Inv X pins σ H { s with heap := h', toks := tk } := I.turned (fun b o hb e => kk b o (by simpa using hb) e) f0 f1 f3 f4 f5
    refine ⟨_, rfl, go_of (s := { s with heap := h', toks := tk }) (n := "range_iterator") st' rfl rfl (by decide) ⟨.int (lo + i), H, I1, ⟨t, ?_⟩, ⟨rfl, rfl⟩, st', fun b hb => (hf b hb).1⟩⟩
    rw [Int.mul_one]
  done := by
    intro X hP hw hK hc i pins s σ H E I hf st hg
    subst hP hw hK
    obtain ⟨f0, f1, f2, f3, f4, f5⟩ := hf it (by simp)
    exact wpAny_pyNext_range_end (I.ok.hd hc) st (by have : n ≤ i := hg; omega) fun h' eb => ⟨rfl, I.turned (t' := s.toks) (fun b o hb e => eb b o hb e) f0 f1 f3 f4 f5⟩
  self := fun _ _ _ _ _ st h => wpAny_pyIter_rangeiter st h
end L2

namespace L2
open PySem PySem.Spec PyProof.Rows
section
variable {X : Cx} {tg : Expr}
def iList (K : PySem.W.Frag) (tl : TE) : TI := fun σ H R => tl σ H fun x H1 => ∃ a, x = .ref a ∧ (∃ xs, SqL K H1 a xs) ∧ R (Itl K a) H1
def iTup (K : PySem.W.Frag) (tl : TE) : TI := fun σ H R => tl σ H fun x H1 => ∃ a, x = .ref a ∧ (∃ xs, SqT K H1 a xs) ∧ R (Itt K a) H1
theorem pi_list {l : Expr} {tl : TE} (hl : PE X l tl) : PI X tg l (iList X.K tl) := by
  intro pins s σ H R I h
  refine thn (hl pins s σ H _ I h) fun v s1 ⟨x, H1, I1, r1, q1⟩ => ?_
  obtain ⟨a, e, ⟨xs, hq⟩, q⟩ := q1
  subst e
  cases r1
  obtain ⟨its, rv, p, hz⟩ := I1.list hq
  refine wpAny_pyIter_list p.isList ?_
  refine ⟨s1.heap.objs.size, [s1.heap.objs.size], _, _, H1, rfl, I1.kept (t' := s1.toks) fun b o e => Heap.get?_push_of_some _ e, turn_list a _, ⟨_, Heap.get?_push_size _ rfl, rfl, rfl⟩, fun b hb => ?_, q⟩
  have e : b = s1.heap.objs.size := by simpa using hb
  subst e
  exact I1.fpOk (Nat.le_refl _) (I1.hok.fresh (Nat.le_refl _))
theorem pi_tup {l : Expr} {tl : TE} (hl : PE X l tl) : PI X tg l (iTup X.K tl) := by
  intro pins s σ H R I h
  refine thn (hl pins s σ H _ I h) fun v s1 ⟨x, H1, I1, r1, q1⟩ => ?_
  obtain ⟨a, e, ⟨xs, hq⟩, q⟩ := q1
  subst e
  cases r1
  obtain ⟨its, rv, p, hz⟩ := I1.tuple hq
  refine wpAny_pyIter_tuple (show s1.heap.IsTuple a its.toArray from p) ?_
  refine ⟨s1.heap.objs.size, [s1.heap.objs.size], _, _, H1, rfl, I1.kept (t' := s1.toks) fun b o e => Heap.get?_push_of_some _ e, turn_tuple a _, ⟨_, Heap.get?_push_size _ rfl, rfl, rfl⟩, fun b hb => ?_, q⟩
  have e : b = s1.heap.objs.size := by simpa using hb
  subst e
  exact I1.fpOk (Nat.le_refl _) (I1.hok.fresh (Nat.le_refl _))
/-- a range object just made, walked -/
theorem range_it {pins : List (Addr × Obj)} {σ : St} {H : Hp} {s : Shared} {R : It → Hp → Prop} {E : Value → Shared → Prop} {lo hi : Int} {t u v : Tok} {tk : Nat} (I : Inv X pins σ H s) (h1 : -(2 ^ 62) ≤ lo) (h2 : lo < 2 ^ 62) (h3 : -(2 ^ 62) ≤ hi) (h4 : hi < 2 ^ 62)
    (q : R (Itr lo (hi - lo).toNat) H) : wpAny (model X.prog X.w) X.A (pyIter (.ref s.heap.objs.size)) (PIE X pins σ tg R) E { s with heap := s.heap.push { cls := .type "range", data := .fields #[.int lo t, .int hi u, .int 1 v] }, toks := tk } := by
  refine wpAny_pyIter_range (IsRange.new ..) (small_one h1 h2 h3 h4) ?_
  have I1 : Inv X pins σ H { s with heap := s.heap.push { cls := .type "range", data := .fields #[.int lo t, .int hi u, .int 1 v] }, toks := tk } := I.kept fun b o e => Heap.get?_push_of_some _ e
  refine ⟨(s.heap.push { cls := .type "range", data := .fields #[.int lo t, .int hi u, .int 1 v] }).objs.size, [(s.heap.push { cls := .type "range", data := .fields #[.int lo t, .int hi u, .int 1 v] }).objs.size], _, _, H, rfl,
    I1.kept (t' := tk) fun b o e => Heap.get?_push_of_some _ e, turn_range _ lo (hi - lo).toNat, ?_, fun b hb => ?_, q⟩
  · have e1 : lo + ((0 : Nat) : Int) * 1 = lo := by simp
    have e2 : (((hi - lo).toNat : Nat) : Int) - ((0 : Nat) : Int) = Builtin.Range.rangeSize lo hi 1 := by rw [rangeSize_one]; split <;> omega
    show IsRangeIter _ _ (lo + ((0 : Nat) : Int) * 1) ((((hi - lo).toNat : Nat) : Int) - ((0 : Nat) : Int)) 1
    rw [e1, e2]
    exact Heap.get?_push_size _ rfl
  · have e : b = (s.heap.push { cls := .type "range", data := .fields #[.int lo t, .int hi u, .int 1 v] }).objs.size := by simpa using hb
    subst e
    exact I1.fpOk (Nat.le_refl _) (I1.hok.fresh (Nat.le_refl _))
def iRng1 (ta : TA) : TI := fun σ H R => ta σ H fun vs H1 => ∃ j : Int, vs = [.int j] ∧ -(2 ^ 62) ≤ j ∧ j < 2 ^ 62 ∧ R (Itr 0 j.toNat) H1
def iRng2 (ta : TA) : TI := fun σ H R => ta σ H fun vs H1 => ∃ i j : Int, vs = [.int i, .int j] ∧ (-(2 ^ 62) ≤ i ∧ i < 2 ^ 62 ∧ -(2 ^ 62) ≤ j ∧ j < 2 ^ 62) ∧ R (Itr i (j - i).toNat) H1
theorem pi_range1 {a : Expr} {ta : TA} {p pos : Pos} (hg : Gl X "range") (hm : X.mg "range" = none) (ha : PA X [a] ta) (hs : starEach [a] X.env = [(false, eval a X.env)] := by rfl) : PI X tg (.Call (.Name "range" p) [a] [] pos) (iRng1 ta) := by
  intro pins s σ H R I h
  refine Call_ (ld_blt I hg hm boot_range (PyProof.Rows.callWith_type1 (thn (ha pos pins s σ H _ I h) fun us s1 ⟨vs, H1, I1, r1, q1⟩ => ?_) hs rfl))
  obtain ⟨j, e, q1, q2, q⟩ := q1
  subst e
  cases r1 with
  | cons r rr =>
    cases rr
    obtain ⟨t, rfl⟩ := r
    exact call_range_1 (range_it I1 (by omega) (by omega) q1 q2 (by simpa using q))

/-! ### for -/
/-- W: the invariant by the turn and a measure; N: what the body is to reach -/
def tFor (wi : TI) (g : TG) (tb : TS) : TS := fun D σ H => wi σ H fun J H1 => ∃ W : Nat → Nat → St → Hp → Prop, (∃ m, W 0 m σ H1) ∧ ∀ i m σ H, W i m σ H →
  (J.stop i H ∧ D.nx σ H) ∨ (J.go i H ∧ ∃ N : St → Hp → Prop, (∀ σ' H', N σ' H' → ∃ m', m' < m ∧ W (i + 1) m' σ' H') ∧ ∀ x H', J.yld i H x H' → g x σ H' fun σ2 H2 => tb { D with nx := N, ct := N, bk := D.nx } σ2 H2)
/-- the records at fp as they stand -/
def pinsAt (fp : List Addr) (h : Heap) : List (Addr × Obj) := fp.filterMap fun b => (h.get? b).map fun o => (b, o)
theorem mem_pinsAt {fp : List Addr} {h : Heap} {b : Addr} {o : Obj} (hb : b ∈ fp) (e : h.get? b = some o) : (b, o) ∈ pinsAt fp h := List.mem_filterMap.mpr ⟨b, hb, by rw [e]; rfl⟩
theorem of_pinsAt {fp : List Addr} {h : Heap} {p : Addr × Obj} (hp : p ∈ pinsAt fp h) : p.1 ∈ fp ∧ h.get? p.1 = some p.2 := by
  obtain ⟨b, hb, e⟩ := List.mem_filterMap.mp hp
  cases q : h.get? b with
  | none => rw [q] at e; cases e
  | some o =>
    rw [q] at e
    have e' : (b, o) = p := Option.some.inj e
    subst e'
    exact ⟨hb, q⟩
theorem Inv.pinned {pins : List (Addr × Obj)} {σ : St} {H : Hp} {s : Shared} {fp : List Addr} (I : Inv X pins σ H s) (hf : ∀ b ∈ fp, FpOk X pins H b) (ho : ∀ b ∈ fp, ∃ o, s.heap.get? b = some o ∧ ∀ v, o.data ≠ .cell v) : Inv X (pins ++ pinsAt fp s.heap) σ H s :=
  I.pins_of fun p hp => (List.mem_append.mp hp).elim (fun z => I.pin p (List.mem_append_right _ z)) fun z => by
    obtain ⟨hb, e⟩ := of_pinsAt z
    obtain ⟨f0, f1, f2, _⟩ := hf p.1 hb
    obtain ⟨o, e', d⟩ := ho p.1 hb
    rw [e] at e'; cases e'
    exact ⟨e, f0, f1, f2, d⟩
theorem Inv.unpinned {pins pl : List (Addr × Obj)} {σ : St} {H : Hp} {s : Shared} (I : Inv X (pins ++ pl) σ H s) : Inv X pins σ H s := I.pins_of fun p hp => I.pin p (List.mem_append_right _ (List.mem_append_left _ hp))
theorem ps_for {iter : Expr} {body : List Stmt} {wi : TI} {g : TG} {tb : TS} {pos : Pos} (hp : PassesOwn (model X.prog X.w) X.A X.env X.xe) (hc : X.calm = true) (hi : PI X tg iter wi) (hg : PG X tg g) (hb : PSs X body tb)
    (hs : ∀ x, foldedSetIterable iter X.env x = pure x := by intro _; rfl) : PS X (.For tg iter body [] pos) (tFor wi g tb) := by
  intro pins s σ H D I h
  refine wpAny_For (thn (hi pins s σ H _ I h) fun v s1 h1 => thn h1 fun itv s2 h2 => ?_) hs
  obtain ⟨it, fp, tn, J, H2, e, I2, T, st2, f2, W, ⟨m0, w0⟩, turn⟩ := h2
  subst e
  -- what stays true of the iterator's objects through the loop
  have stat : ∀ {H' : Hp}, (∀ b ∈ fp, H' b = none) → ∀ b ∈ fp, FpOk X pins H' b := fun hn b hb => ⟨hn b hb, (f2 b hb).2⟩
  refine codeAny_forLoop_any (fun n s' => ∃ i σ' H', Inv X pins σ' H' s' ∧ tn i s'.heap ∧ (∀ b ∈ fp, H' b = none) ∧ W i n σ' H') ?_ m0 ⟨0, σ, H2, I2, st2, fun b hb => (f2 b hb).1, w0⟩
  rintro n s3 ⟨i, σ3, H3, I3, st3, fr3, w3⟩
  rcases turn i n σ3 H3 w3 with ⟨stop, qn⟩ | ⟨go, N, hN, step⟩
  · refine wpAny_passesOwn hp (thn (T.done X rfl rfl rfl hc i pins s3 σ3 H3 X.xe I3 (stat fr3) st3 stop) fun r s4 ⟨hr, I4⟩ => ?_)
    subst hr
    exact wpAny_execs_nil ⟨σ3, H3, I4, qn⟩
  · refine wpAny_passesOwn hp (thn (T.item X rfl rfl rfl hc i pins s3 σ3 H3 X.xe I3 (stat fr3) st3 go) fun r s4 ⟨u, hr, h4⟩ => ?_)
    subst hr
    refine wpAny_passesOwn hp (thn h4 fun _ s5 ⟨x, H5, I5, r5, y5, st5, fr5⟩ => ?_)
    have I5' := I5.pinned (stat fr5) (T.obj _ _ st5)
    refine wpAny_passesOwn hp (thn (hg _ s5 σ3 H5 x u _ I5' r5 (step x H5 y5)) fun _ s6 ⟨σ6, H6, I6, q6⟩ => ?_)
    refine wpAny_passesOwn hp (thn (hb _ s6 σ6 H6 _ I6 q6) fun f s7 q7 => ?_)
    have again : ∀ {σ7 : St} {H7 : Hp}, Inv X (pins ++ pinsAt fp s5.heap) σ7 H7 s7 → N σ7 H7 → ∃ m, m < n ∧ ∃ i σ' H', Inv X pins σ' H' s7 ∧ tn i s7.heap ∧ (∀ b ∈ fp, H' b = none) ∧ W i m σ' H' := fun {σ7 H7} I7 n7 => by
      obtain ⟨m', hm, w7⟩ := hN σ7 H7 n7
      refine ⟨m', hm, i + 1, σ7, H7, I7.unpinned, T.keep _ _ _ st5 fun b hb o e => (I7.pin (b, o) (List.mem_append_right _ (List.mem_append_right _ (mem_pinsAt hb e)))).1, fun b hb => ?_, w7⟩
      obtain ⟨o, e, d⟩ := T.obj _ _ st5 b hb
      exact (I7.pin (b, o) (List.mem_append_right _ (List.mem_append_right _ (mem_pinsAt hb e)))).2.1
    cases f with
    | next => obtain ⟨σ7, H7, I7, n7⟩ := q7; exact again I7 n7
    | cont => obtain ⟨σ7, H7, I7, n7⟩ := q7; exact again I7 n7
    | brk => obtain ⟨σ7, H7, I7, q7⟩ := q7; exact ⟨σ7, H7, I7.unpinned, q7⟩
    | ret v => obtain ⟨x7, σ7, H7, I7, r7, q7⟩ := q7; exact ⟨x7, σ7, H7, I7.unpinned, r7, q7⟩
end

/-! ### the forms one uses -/
/-- over a list that the body leaves as it is -/
theorem for_list {K : PySem.W.Frag} {a : Addr} {xs : List V} {g : TG} {tb : TS} {D : Ends} {σ : St} {H : Hp} (Pv : Nat → St → Hp → Prop) (h0 : Pv 0 σ H) (hl : ∀ i σ H, i ≤ xs.length → Pv i σ H → SqL K H a xs)
    (hs : ∀ i x σ H, xs[i]? = some x → Pv i σ H → g x σ H fun σ2 H2 => tb { D with nx := Pv (i + 1), ct := Pv (i + 1), bk := D.nx } σ2 H2) (hd : ∀ σ H, Pv xs.length σ H → D.nx σ H) :
    ∃ W : Nat → Nat → St → Hp → Prop, (∃ m, W 0 m σ H) ∧ ∀ i m σ H, W i m σ H →
      ((Itl K a).stop i H ∧ D.nx σ H) ∨ ((Itl K a).go i H ∧ ∃ N : St → Hp → Prop, (∀ σ' H', N σ' H' → ∃ m', m' < m ∧ W (i + 1) m' σ' H') ∧ ∀ x H', (Itl K a).yld i H x H' → g x σ H' fun σ2 H2 => tb { D with nx := N, ct := N, bk := D.nx } σ2 H2) := by
  refine ⟨fun i m σ H => m = xs.length - i ∧ i ≤ xs.length ∧ Pv i σ H, ⟨xs.length, by simp, Nat.zero_le _, h0⟩, ?_⟩
  rintro i m σ H ⟨rfl, hi, p⟩
  have q := hl i σ H hi p
  by_cases hlt : i < xs.length
  · refine .inr ⟨⟨xs, xs[i], q, by simp [hlt]⟩, Pv (i + 1), fun σ' H' p' => ⟨xs.length - (i + 1), by omega, rfl, hlt, p'⟩, fun x H' y => ?_⟩
    obtain ⟨e, y⟩ := y
    subst e
    exact hs i x σ _ (y xs q) p
  · have e : i = xs.length := by omega
    subst e
    exact .inl ⟨⟨xs, q, Nat.le_refl _⟩, hd σ H p⟩
theorem for_tup {K : PySem.W.Frag} {a : Addr} {xs : List V} {g : TG} {tb : TS} {D : Ends} {σ : St} {H : Hp} (Pv : Nat → St → Hp → Prop) (h0 : Pv 0 σ H) (hl : ∀ i σ H, i ≤ xs.length → Pv i σ H → SqT K H a xs)
    (hs : ∀ i x σ H, xs[i]? = some x → Pv i σ H → g x σ H fun σ2 H2 => tb { D with nx := Pv (i + 1), ct := Pv (i + 1), bk := D.nx } σ2 H2) (hd : ∀ σ H, Pv xs.length σ H → D.nx σ H) :
    ∃ W : Nat → Nat → St → Hp → Prop, (∃ m, W 0 m σ H) ∧ ∀ i m σ H, W i m σ H →
      ((Itt K a).stop i H ∧ D.nx σ H) ∨ ((Itt K a).go i H ∧ ∃ N : St → Hp → Prop, (∀ σ' H', N σ' H' → ∃ m', m' < m ∧ W (i + 1) m' σ' H') ∧ ∀ x H', (Itt K a).yld i H x H' → g x σ H' fun σ2 H2 => tb { D with nx := N, ct := N, bk := D.nx } σ2 H2) := by
  refine ⟨fun i m σ H => m = xs.length - i ∧ i ≤ xs.length ∧ Pv i σ H, ⟨xs.length, by simp, Nat.zero_le _, h0⟩, ?_⟩
  rintro i m σ H ⟨rfl, hi, p⟩
  have q := hl i σ H hi p
  by_cases hlt : i < xs.length
  · refine .inr ⟨⟨xs, xs[i], q, by simp [hlt]⟩, Pv (i + 1), fun σ' H' p' => ⟨xs.length - (i + 1), by omega, rfl, hlt, p'⟩, fun x H' y => ?_⟩
    obtain ⟨e, y⟩ := y
    subst e
    exact hs i x σ _ (y xs q) p
  · have e : i = xs.length := by omega
    subst e
    exact .inl ⟨⟨xs, q, Nat.le_refl _⟩, hd σ H p⟩
theorem for_range {lo : Int} {n : Nat} {g : TG} {tb : TS} {D : Ends} {σ : St} {H : Hp} (Pv : Nat → St → Hp → Prop) (h0 : Pv 0 σ H)
    (hs : ∀ i σ H, i < n → Pv i σ H → g (.int (lo + i)) σ H fun σ2 H2 => tb { D with nx := Pv (i + 1), ct := Pv (i + 1), bk := D.nx } σ2 H2) (hd : ∀ σ H, Pv n σ H → D.nx σ H) :
    ∃ W : Nat → Nat → St → Hp → Prop, (∃ m, W 0 m σ H) ∧ ∀ i m σ H, W i m σ H →
      ((Itr lo n).stop i H ∧ D.nx σ H) ∨ ((Itr lo n).go i H ∧ ∃ N : St → Hp → Prop, (∀ σ' H', N σ' H' → ∃ m', m' < m ∧ W (i + 1) m' σ' H') ∧ ∀ x H', (Itr lo n).yld i H x H' → g x σ H' fun σ2 H2 => tb { D with nx := N, ct := N, bk := D.nx } σ2 H2) := by
  refine ⟨fun i m σ H => m = n - i ∧ i ≤ n ∧ Pv i σ H, ⟨n, by simp, Nat.zero_le _, h0⟩, ?_⟩
  rintro i m σ H ⟨rfl, hi, p⟩
  by_cases hlt : i < n
  · refine .inr ⟨hlt, Pv (i + 1), fun σ' H' p' => ⟨n - (i + 1), by omega, rfl, hlt, p'⟩, fun x H' y => ?_⟩
    obtain ⟨e, y⟩ := y
    subst e y
    exact hs i σ _ hlt p
  · have e : i = n := by omega
    subst e
    exact .inl ⟨Nat.le_refl _, hd σ H p⟩
end L2

namespace L2
open PySem PySem.Spec PyProof.Rows

abbrev R2 := V → V → Hp → VK → Prop
/-- a two-place operation on values: f is binaryOp op, inplaceOp op or compareOp op -/
def OpR (X : Cx) (f : Value → Value → Sem Value) (r : R2) : Prop :=
  ∀ (pins : List (Addr × Obj)) (s : Shared) (σ : St) (H : Hp) (x y : V) (v u : Value) (Q : VK), Inv X pins σ H s → RelV x v → RelV y u → r x y H Q →
    wpAny (model X.prog X.w) X.A (f v u) (EP X pins σ Q) X.xe s
/-- a one-place operation -/
def UnR (X : Cx) (f : Value → Sem Value) (r : V → Hp → VK → Prop) : Prop :=
  ∀ (pins : List (Addr × Obj)) (s : Shared) (σ : St) (H : Hp) (x : V) (v : Value) (Q : VK), Inv X pins σ H s → RelV x v → r x H Q →
    wpAny (model X.prog X.w) X.A (f v) (EP X pins σ Q) X.xe s
/-- a call of a value that is known (a builtin, a type) with values -/
def CallR (X : Cx) (f : Value) (r : List V → Hp → VK → Prop) : Prop :=
  ∀ (pins : List (Addr × Obj)) (s : Shared) (σ : St) (H : Hp) (xs : List V) (us : List Value) (Q : VK), Inv X pins σ H s → Vals xs us → r xs H Q →
    wpAny (model X.prog X.w) X.A (call f us) (EP X pins σ Q) X.xe s
/-- a value's truth -/
def TruR (X : Cx) (r : V → Hp → (Bool → Hp → Prop) → Prop) : Prop :=
  ∀ (pins : List (Addr × Obj)) (s : Shared) (σ : St) (H : Hp) (x : V) (v : Value) (Q : Bool → Hp → Prop), Inv X pins σ H s → RelV x v → r x H Q →
    wpAny (model X.prog X.w) X.A (truthy v) (TP X pins σ Q) X.xe s

def tOp (r : R2) (ta tb : TE) : TE := fun σ H Q => ta σ H fun x H1 => tb σ H1 fun y H2 => r x y H2 Q
def tUn (r : V → Hp → VK → Prop) (ta : TE) : TE := fun σ H Q => ta σ H fun x H1 => r x H1 Q
/-- ints in, under C, and a value out -/
def rI (C : Int → Int → Prop) (g : Int → Int → V) : R2 := fun x y H Q => ∃ i j, x = .int i ∧ y = .int j ∧ C i j ∧ Q (g i j) H
def rI0 (g : Int → Int → V) : R2 := fun x y H Q => ∃ i j, x = .int i ∧ y = .int j ∧ Q (g i j) H
def rU (g : Int → V) : V → Hp → VK → Prop := fun x H Q => ∃ i, x = .int i ∧ Q (g i) H

section
variable {X : Cx} {a b c : Expr} {ta tb tc : TE} {pos : Pos}

theorem binT (ha : PE X a ta) (hb : PE X b tb) {pins : List (Addr × Obj)} {s : Shared} {σ : St} {H : Hp} {R : V → V → Hp → Prop} (I : Inv X pins σ H s)
    (h : ta σ H fun x H1 => tb σ H1 fun y H2 => R x y H2) {Q : Value → Shared → Prop} {f : Value → Value → Sem Value}
    (hf : ∀ v u s2 x y H2, Inv X pins σ H2 s2 → RelV x v → RelV y u → R x y H2 → wpAny (model X.prog X.w) X.A (f v u) Q X.xe s2) :
    wpAny (model X.prog X.w) X.A (eval a X.env) (fun v s₁ => wpAny (model X.prog X.w) X.A (eval b X.env) (fun u s₂ => wpAny (model X.prog X.w) X.A (f v u) Q X.xe s₂) X.xe s₁) X.xe s := by
  refine thn (ha pins s σ H _ I h) fun v s1 ⟨x, H1, I1, r1, q1⟩ => ?_
  refine thn (hb pins s1 σ H1 _ I1 q1) fun u s2 ⟨y, H2, I2, r2, q2⟩ => ?_
  exact hf v u s2 x y H2 I2 r1 r2 q2

theorem pe_op {op : Operator} {r : R2} (ho : OpR X (binaryOp op) r) (ha : PE X a ta) (hb : PE X b tb) : PE X (.BinOp a op b pos) (tOp r ta tb) := by
  intro pins s σ H Q I h
  exact wpAny_BinOp (binT ha hb I h fun v u s2 x y H2 I2 rx ry q => ho pins s2 σ H2 x y v u Q I2 rx ry q)

/-! ### ints -/
theorem opI {f : Value → Value → Sem Value} {C : Int → Int → Prop} {g : Int → Int → Int}
    (rule : ∀ (i j : Int) (t u : Tok) (s : Shared) (Q : Value → Shared → Prop) (E : Value → Shared → Prop), C i j → Q (.int (g i j) s.toks) { s with toks := s.toks + 1 } → wpAny (model X.prog X.w) X.A (f (.int i t) (.int j u)) Q E s) :
    OpR X f (rI C fun i j => .int (g i j)) := by
  intro pins s σ H x y v u Q I rx ry h
  obtain ⟨i, j, rfl, rfl, hc, q⟩ := h
  obtain ⟨t, rfl⟩ := rx
  obtain ⟨t', rfl⟩ := ry
  exact rule i j t t' s _ _ hc ⟨.int (g i j), H, I.tok _, ⟨_, rfl⟩, q⟩
theorem opI0 {f : Value → Value → Sem Value} {g : Int → Int → Int}
    (rule : ∀ (i j : Int) (t u : Tok) (s : Shared) (Q : Value → Shared → Prop) (E : Value → Shared → Prop), Q (.int (g i j) s.toks) { s with toks := s.toks + 1 } → wpAny (model X.prog X.w) X.A (f (.int i t) (.int j u)) Q E s) :
    OpR X f (rI0 fun i j => .int (g i j)) := by
  intro pins s σ H x y v u Q I rx ry h
  obtain ⟨i, j, rfl, rfl, q⟩ := h
  obtain ⟨t, rfl⟩ := rx
  obtain ⟨t', rfl⟩ := ry
  exact rule i j t t' s _ _ ⟨.int (g i j), H, I.tok _, ⟨_, rfl⟩, q⟩
theorem opB0 {f : Value → Value → Sem Value} {g : Int → Int → Bool}
    (rule : ∀ (i j : Int) (t u : Tok) (s : Shared) (Q : Value → Shared → Prop) (E : Value → Shared → Prop), Q (.bool (g i j)) s → wpAny (model X.prog X.w) X.A (f (.int i t) (.int j u)) Q E s) :
    OpR X f (rI0 fun i j => .bl (g i j)) := by
  intro pins s σ H x y v u Q I rx ry h
  obtain ⟨i, j, rfl, rfl, q⟩ := h
  obtain ⟨t, rfl⟩ := rx
  obtain ⟨t', rfl⟩ := ry
  exact rule i j t t' s _ _ ⟨.bl (g i j), H, I, rfl, q⟩

def CDiv (i j : Int) : Prop := 0 < j ∧ j < 1073741824
def CDivN (i j : Int) : Prop := j ≠ 0 ∧ j.natAbs < 1073741824
def CPow (i j : Int) : Prop := 0 ≤ j ∧ j ≤ 1000000 ∧ i.natAbs < 2 ^ 64
def CMul (i j : Int) : Prop := (-(2 ^ 64) < i ∧ i < 2 ^ 64) ∨ (-(2 ^ 64) < j ∧ j < 2 ^ 64)
theorem CMul.ok {i j : Int} (h : CMul i j) : IntMulOk i j := by
  rcases h with ⟨h1, h2⟩ | ⟨h1, h2⟩
  · exact .of_left (intBits_le_64 h1 h2)
  · exact .of_right (intBits_le_64 h1 h2)

theorem op_add : OpR X (binaryOp .Add) (rI0 fun i j => .int (i + j)) := opI0 fun _ _ _ _ _ _ _ q => add_int q
theorem op_sub : OpR X (binaryOp .Sub) (rI0 fun i j => .int (i - j)) := opI0 fun _ _ _ _ _ _ _ q => sub_int q
theorem op_mul : OpR X (binaryOp .Mult) (rI CMul fun i j => .int (i * j)) := opI fun _ _ _ _ _ _ _ hc q => mul_int q hc.ok
/-- // by a positive divisor -/
theorem op_fdiv : OpR X (binaryOp .FloorDiv) (rI CDiv fun i j => .int (i / j)) := opI fun i j _ _ _ _ _ hc q => by
  have h1 : (0 : Int) < j := hc.1
  have h2 : j < 1073741824 := hc.2
  exact floordiv_int (by omega) (by rw [Int.fdiv_eq_ediv_of_nonneg i (by omega)]; exact q) (.inl (PyProof.noPylong_small (by omega)))
/-- % by a positive divisor of any size -/
theorem op_mod : OpR X (binaryOp .Mod) (rI (fun _ j => 0 < j) fun i j => .int (i % j)) := opI fun i j _ _ _ _ _ hc q => by
  have h1 : (0 : Int) < j := hc
  exact mod_int' (by omega) (by rw [Int.fmod_eq_emod_of_nonneg i (by omega)]; exact q)
theorem op_pow : OpR X (binaryOp .Pow) (rI CPow fun i j => .int (i ^ j.toNat)) := opI fun _ _ _ _ _ _ _ hc q => pow_int_small hc.1 hc.2.1 hc.2.2 q



/-! ### bools among ints: n += (a < b) -/
end

/-! ### comparisons -/
/-- the scalars that == tells apart as data does -/
def scal : V → V → Bool
  | .non, .non => true | .non, .int _ => true | .int _, .non => true | .non, .bl _ => true | .bl _, .non => true | .non, .str _ => true | .str _, .non => true
  | .int _, .int _ => true | .bl _, .bl _ => true | .str _, .str _ => true | .byt _, .byt _ => true
  | .int _, .str _ => true | .str _, .int _ => true | .bl _, .str _ => true | .str _, .bl _ => true
  | _, _ => false
def rEq : R2 := fun x y H Q => scal x y = true ∧ Q (.bl (decide (x = y))) H
def rNe : R2 := fun x y H Q => scal x y = true ∧ Q (.bl (!decide (x = y))) H

theorem dec_int {i j : Int} : decide (V.int i = V.int j) = (i == j) := by
  rw [Bool.eq_iff_iff]
  simp
theorem dec_bl {i j : Bool} : decide (V.bl i = V.bl j) = (i == j) := by
  rw [Bool.eq_iff_iff]
  simp
theorem dec_str {i j : Str} : decide (V.str i = V.str j) = (i == j) := by
  rw [Bool.eq_iff_iff]
  simp
theorem dec_byt {i j : Array UInt8} : decide (V.byt i = V.byt j) = (i.toList == j.toList) := by
  rw [Bool.eq_iff_iff]
  cases i
  cases j
  simp

section
variable {X : Cx} {a b c : Expr} {ta tb tc : TE} {pos : Pos}
theorem fin_bl {pins : List (Addr × Obj)} {σ : St} {H : Hp} {s : Shared} {Q : VK} {k k' : Bool} (I : Inv X pins σ H s) (q : Q (.bl k) H) (e : k = k') : EP X pins σ Q (.bool k') s := by
  subst e
  exact ⟨.bl k, H, I, rfl, q⟩
theorem op_eq : OpR X (compareOp .Eq) rEq := by
  intro pins s σ H x y v u Q I rx ry h
  obtain ⟨hs, q⟩ := h
  cases x with
  | non =>
    cases rx
    cases y with
    | non => cases ry; exact PySem.EqNone.eq_none_none (fin_bl I q (by simp))
    | bl j => cases ry; exact PySem.EqNone.eq_none_bool (fin_bl I q (by simp))
    | int j => obtain ⟨t', rfl⟩ := ry; exact PySem.EqNone.eq_none_int (fin_bl I q (by simp))
    | str j => obtain ⟨t', rfl⟩ := ry; exact PySem.EqNone.eq_none_str (fin_bl I q (by simp))
    | _ => exact absurd (show false = true from hs) Bool.false_ne_true
  | bl i =>
    cases rx
    cases y with
    | non => cases ry; exact PySem.EqNone.eq_bool_none (fin_bl I q (by simp))
    | bl j => cases ry; exact eq_bool (fin_bl I q dec_bl)
    | str j => obtain ⟨t', rfl⟩ := ry; exact PySem.EqMixed.eq_bool_str (fin_bl I q (by simp))
    | _ => exact absurd (show false = true from hs) Bool.false_ne_true
  | int i =>
    obtain ⟨t, rfl⟩ := rx
    cases y with
    | non => cases ry; exact PySem.EqNone.eq_int_none (fin_bl I q (by simp))
    | int j => obtain ⟨t', rfl⟩ := ry; exact eq_int (fin_bl I q dec_int)
    | str j => obtain ⟨t', rfl⟩ := ry; exact PySem.EqMixed.eq_int_str (fin_bl I q (by simp))
    | _ => exact absurd (show false = true from hs) Bool.false_ne_true
  | str i =>
    obtain ⟨t, rfl⟩ := rx
    cases y with
    | non => cases ry; exact PySem.EqNone.eq_str_none (fin_bl I q (by simp))
    | bl j => cases ry; exact PySem.EqMixed.eq_str_bool (fin_bl I q (by simp))
    | int j => obtain ⟨t', rfl⟩ := ry; exact PySem.EqMixed.eq_str_int (fin_bl I q (by simp))
    | str j => obtain ⟨t', rfl⟩ := ry; exact eq_str (fin_bl I q dec_str)
    | _ => exact absurd (show false = true from hs) Bool.false_ne_true
  | byt i =>
    obtain ⟨t, rfl⟩ := rx
    cases y with
    | byt j => obtain ⟨t', rfl⟩ := ry; exact PySem.W.eq_bytes (fin_bl I q dec_byt)
    | _ => exact absurd (show false = true from hs) Bool.false_ne_true
  | _ => cases y <;> exact absurd (show false = true from hs) Bool.false_ne_true
theorem op_ne : OpR X (compareOp .NotEq) rNe := by
  intro pins s σ H x y v u Q I rx ry h
  obtain ⟨hs, q⟩ := h
  cases x with
  | non =>
    cases rx
    cases y with
    | non => cases ry; exact PySem.EqNone.ne_none_none (fin_bl I q (by simp))
    | bl j => cases ry; exact PySem.EqNone.ne_none_bool (fin_bl I q (by simp))
    | int j => obtain ⟨t', rfl⟩ := ry; exact PySem.EqNone.ne_none_int (fin_bl I q (by simp))
    | str j => obtain ⟨t', rfl⟩ := ry; exact PySem.EqNone.ne_none_str (fin_bl I q (by simp))
    | _ => exact absurd (show false = true from hs) Bool.false_ne_true
  | bl i =>
    cases rx
    cases y with
    | non => cases ry; exact PySem.EqNone.ne_bool_none (fin_bl I q (by simp))
    | bl j => cases ry; exact ne_bool (fin_bl I q (congrArg not dec_bl))
    | str j => obtain ⟨t', rfl⟩ := ry; exact PySem.EqMixed.ne_bool_str (fin_bl I q (by simp))
    | _ => exact absurd (show false = true from hs) Bool.false_ne_true
  | int i =>
    obtain ⟨t, rfl⟩ := rx
    cases y with
    | non => cases ry; exact PySem.EqNone.ne_int_none (fin_bl I q (by simp))
    | int j => obtain ⟨t', rfl⟩ := ry; exact ne_int (fin_bl I q (congrArg not dec_int))
    | str j => obtain ⟨t', rfl⟩ := ry; exact PySem.EqMixed.ne_int_str (fin_bl I q (by simp))
    | _ => exact absurd (show false = true from hs) Bool.false_ne_true
  | str i =>
    obtain ⟨t, rfl⟩ := rx
    cases y with
    | non => cases ry; exact PySem.EqNone.ne_str_none (fin_bl I q (by simp))
    | bl j => cases ry; exact PySem.EqMixed.ne_str_bool (fin_bl I q (by simp))
    | int j => obtain ⟨t', rfl⟩ := ry; exact PySem.EqMixed.ne_str_int (fin_bl I q (by simp))
    | str j => obtain ⟨t', rfl⟩ := ry; exact ne_str (fin_bl I q (congrArg not dec_str))
    | _ => exact absurd (show false = true from hs) Bool.false_ne_true
  | byt i =>
    obtain ⟨t, rfl⟩ := rx
    cases y with
    | byt j => obtain ⟨t', rfl⟩ := ry; exact PySem.W.ne_bytes (fin_bl I q (congrArg not dec_byt))
    | _ => exact absurd (show false = true from hs) Bool.false_ne_true
  | _ => cases y <;> exact absurd (show false = true from hs) Bool.false_ne_true

theorem op_lt : OpR X (compareOp .Lt) (rI0 fun i j => .bl (decide (i < j))) := opB0 fun _ _ _ _ _ _ _ q => lt_int q
theorem op_gt : OpR X (compareOp .Gt) (rI0 fun i j => .bl (decide (j < i))) := opB0 fun _ _ _ _ _ _ _ q => gt_int q
theorem op_ge : OpR X (compareOp .GtE) (rI0 fun i j => .bl (decide (j ≤ i))) := opB0 fun _ _ _ _ _ _ _ q => ge_int q


/-- is, is not of two objects that are tracked lists or instances -/
def isObj : HO → Bool
  | .lst _ => true
  | .ins _ _ _ => true
  | _ => false


theorem nomark (b : Expr) {op : CmpOp} (h : op ≠ .In := by decide) (h2 : op ≠ .NotIn := by decide) : behindInMarks op b = false := by
  have e1 : (op == CmpOp.In) = false := by cases op <;> first | rfl | exact absurd rfl h
  have e2 : (op == CmpOp.NotIn) = false := by cases op <;> first | rfl | exact absurd rfl h2
  cases b <;> simp [behindInMarks, e1, e2]
/-- a comparison as a value; hm: nomark b, or (for in, not in) by with_unfolding_all rfl -/
theorem pe_cmpR {op : CmpOp} {r : R2} (ho : OpR X (compareOp op) r) (ha : PE X a ta) (hb : PE X b tb) (hm : behindInMarks op b = false) : PE X (.Compare a [op] [b] pos) (tOp r ta tb) := by
  intro pins s σ H Q I h
  exact wpAny_Compare1 (binT ha hb I h fun v u s2 x y H2 I2 rx ry q => ho pins s2 σ H2 x y v u Q I2 rx ry q) hm
/-- a reading of a value as a test -/
def tTest (t : TE) : TT := fun σ H Q => t σ H fun x H' => ∃ k, x = .bl k ∧ Q k H'
theorem pt_cmpR {op : CmpOp} {r : R2} (ho : OpR X (compareOp op) r) (ha : PE X a ta) (hb : PE X b tb) (hm : behindInMarks op b = false) : PT X (.Compare a [op] [b] pos) (tTest (tOp r ta tb)) := by
  intro pins s σ H Q I h
  refine wpAny_isTrue_Compare1 (thn (ha pins s σ H _ I h) fun v s1 ⟨x, H1, I1, r1, q1⟩ => thn (hb pins s1 σ H1 _ I1 q1) fun u s2 ⟨y, H2, I2, r2, q2⟩ =>
    thn (ho pins s2 σ H2 x y v u _ I2 r1 r2 q2) fun c s3 ⟨z, H3, I3, r3, k, e, q3⟩ => ?_) hm
  subst e
  cases r3
  exact wpAny_truthy_bool ⟨H3, I3, q3⟩
/-- a op1 b op2 c -/
def tChain (r r' : R2) (ta tb tc : TE) : TE := fun σ H Q => ta σ H fun x H1 => tb σ H1 fun y H2 => r x y H2 fun z H3 => ∃ k, z = .bl k ∧
  (if k = true then tc σ H3 fun w' H4 => r' y w' H4 Q else Q (.bl false) H3)

/-! ### truth -/
/-- a value's truth by the abstract heap -/
def TruV (K : PySem.W.Frag) (x : V) (H : Hp) (k : Bool) : Prop :=
  match x with
  | .non => k = false
  | .bl b => k = b
  | .int i => k = (i != 0)
  | .str y => y.length ≤ sizeLine ∧ k = ((y.length : Int) != 0)
  | .byt y => y.size ≤ sizeLine ∧ k = ((y.size : Int) != 0)
  | .ref p => (∃ xs, SqL K H p xs ∧ k = !xs.isEmpty) ∨ (∃ xs, SqT K H p xs ∧ k = !xs.isEmpty) ∨ ∃ kvs, H p = some (.dK kvs) ∧ k = !kvs.isEmpty
  | _ => False
theorem line63 : (sizeLine : Nat) < 2 ^ 63 := by rw [sizeLine_eq]; decide

/-! ### strs and bytes -/

def PlainIxT (b : Expr) : Prop := ∀ o i, subscripted b false o i = operate [o, i] (getItem o i)

/-! ### scalar builtins, by CallR -/
theorem vals1 {x : V} {us : List Value} (r : Vals [x] us) : ∃ u, us = [u] ∧ RelV x u := by
  cases r with
  | cons r1 r2 => cases r2; exact ⟨_, rfl, r1⟩
theorem vals2 {x y : V} {us : List Value} (r : Vals [x, y] us) : ∃ u w', us = [u, w'] ∧ RelV x u ∧ RelV y w' := by
  cases r with
  | cons r1 r2 =>
    cases r2 with
    | cons r3 r4 => cases r4; exact ⟨_, _, rfl, r1, r3⟩
theorem call_max2 (hc : X.calm = true) : CallR X (.builtin "max") (fun xs H Q => ∃ i j, xs = [.int i, .int j] ∧ Q (.int (if j > i then j else i)) H) := by
  intro pins s σ H xs us Q I r h
  obtain ⟨i, j, rfl, q⟩ := h
  obtain ⟨u, w', rfl, ⟨t, rfl⟩, ⟨t', rfl⟩⟩ := vals2 r
  refine max_two_ints (I.ok.hd hc) fun h' tk k => ⟨_, H, I.kept k, ?_, q⟩
  by_cases hj : j > i
  · rw [if_pos hj, if_pos hj]; exact ⟨_, rfl⟩
  · rw [if_neg hj, if_neg hj]; exact ⟨_, rfl⟩
theorem call_min2 (hc : X.calm = true) : CallR X (.builtin "min") (fun xs H Q => ∃ i j, xs = [.int i, .int j] ∧ Q (.int (if j < i then j else i)) H) := by
  intro pins s σ H xs us Q I r h
  obtain ⟨i, j, rfl, q⟩ := h
  obtain ⟨u, w', rfl, ⟨t, rfl⟩, ⟨t', rfl⟩⟩ := vals2 r
  refine min_two_ints (I.ok.hd hc) fun h' tk k => ⟨_, H, I.kept k, ?_, q⟩
  by_cases hj : j < i
  · rw [if_pos hj, if_pos hj]; exact ⟨_, rfl⟩
  · rw [if_neg hj, if_neg hj]; exact ⟨_, rfl⟩
/-- len of a str, a bytes, a list, a tuple -/
def LenV (K : PySem.W.Frag) (x : V) (H : Hp) (n : Nat) : Prop :=
  match x with
  | .str y => y.length ≤ sizeLine ∧ n = y.length
  | .byt y => y.size ≤ sizeLine ∧ n = y.size
  | .ref p => (∃ xs, SqL K H p xs ∧ n = xs.length) ∨ ∃ xs, SqT K H p xs ∧ n = xs.length
  | _ => False
end
end L2

namespace L2
open PySem PySem.Spec PyProof.Rows

/-! ### an instance, its attributes a map -/
structure ObjM (h : Heap) (x dx C : Addr) (mA : Str → Option Value) : Prop where
  obj : h.get? x = some (PySem.W.instObj C dx)
  ns : h.Ns1 dx mA
  ne : dx ≠ x

theorem lookIn_ns {h : Heap} {dx : Addr} {mA : Str → Option Value} (n : h.Ns1 dx mA) : ∃ od, h.get? dx = some od ∧ ∀ name, PySem.W.lookIn name od = some (mA name) := by
  obtain ⟨o, es, ep, ho, hd, hk, _, hm⟩ := n
  refine ⟨o, ho, fun name => ?_⟩
  have e := hm name
  unfold nsFind findBy at e
  rw [← Array.find?_toList] at e
  unfold PySem.W.lookIn
  rw [hd]
  dsimp only
  split
  · rename_i y q
    rw [q] at e
    exact congrArg some e
  · rename_i q
    rw [q] at e
    have a : es.toList.any (·.refKey) = false := by
      rw [List.any_eq_false]
      intro y hy
      obtain ⟨z, t, hkey⟩ := hk y (Array.mem_toList_iff.mp hy)
      simp [DictEntry.refKey, hkey]
    have a' : ¬ es.toList.any (·.refKey) = true := by rw [a]; exact Bool.false_ne_true
    rw [if_neg a']
    exact congrArg some e

theorem ObjM.look {h : Heap} {x dx C : Addr} {mA : Str → Option Value} (I : ObjM h x dx C mA) : ∃ od, PySem.W.InstAt h x (PySem.W.instObj C dx) C (some od) ∧ ∀ name, PySem.W.lookIn name od = some (mA name) :=
  let ⟨od, ho, hl⟩ := lookIn_ns I.ns
  ⟨od, ⟨I.obj, rfl, rfl, ho⟩, hl⟩

section
variable {prog : Program} {w : World} {A : Around} {E : Value → Shared → Prop} {s : Shared} {K : PySem.W.Frag} {x dx C f : Addr} {mA : Str → Option Value} {name : Str} {v : Value}

theorem get_map {expr : Bool} {Q : Value → Shared → Prop} (X : K.In s.heap) (I : ObjM s.heap x dx C mA) (hg : PySem.W.plainGet K C name = true) (hh : PySem.W.hasDictIn K C = true)
    (ha : PySem.W.findIn K (.ref C) name = some none) (hv : mA name = some v) (hv' : PySem.W.handedIn v = true) (h : Q v { s with toks := s.toks + 1 }) :
    wpAny (model prog w) A (getAttr (.ref x) name expr) Q E s := by
  obtain ⟨od, J, hl⟩ := I.look
  exact PySem.W.get_value X J (PySem.W.plainGet_of hg).1 (PySem.W.findObj_own hh ha rfl (by rw [hl, hv])) hv' h


theorem get_meth {pl : Sem Bool} {Q : Value × List Value → Shared → Prop} (X : K.In s.heap) (I : ObjM s.heap x dx C mA) (hg : PySem.W.plainGet K C name = true)
    (hf : PySem.W.findIn K (.ref C) name = some (some (.ref f))) (ht : PySem.W.isFn K (.ref f) = true) (hv : mA name = none) (h : Q (.ref f, [.ref x]) s) :
    wpAny (model prog w) A (getMethod (.ref x) name pl) Q E s := by
  obtain ⟨od, J, hl⟩ := I.look
  exact PySem.W.method_fn X J (PySem.W.plainGet_of hg).1 (PySem.W.plainGet_of hg).2 hf (beq_iff_eq.mp ht) (by show (PySem.W.lookIn name od).map (·.isSome) = some false; rw [hl, hv]; rfl) h

theorem set_map {ns : List Str} {Q : Unit → Shared → Prop} (X : K.In s.heap) (I : ObjM s.heap x dx C mA)
    (hs : PySem.W.findIn K (.ref C) "__setattr__" = some (some (.builtin "object.__setattr__"))) (hp : PySem.W.plainOver K C = true) (ht : PySem.W.takerIn K C name = some none) (hh : PySem.W.hasDictIn K C = true)
    (hw : PySem.Within mA ns) (hsz : ns.length ≤ sizeLine)
    (h : ∀ h', ObjM h' x dx C (fun y => if y = name then some v else mA y) → Heap.SameBut dx s.heap h' → Q () { s with heap := h', toks := s.toks + 2 }) :
    wpAny (model prog w) A (setAttr (.ref x) name v) Q E s := by
  obtain ⟨od, J, hl⟩ := I.look
  refine PySem.W.set_plain X J hs (PySem.W.osa_open (s := { s with toks := s.toks + 1 }) (r := none) X J hp ht fun b => ?_)
  obtain ⟨cd, hc, hd'⟩ := PySem.W.any_some hh
  have hx : s.heap.get? x = some ⟨.ref C, some dx, .plain, #[]⟩ := I.obj
  refine wpAny_bind (wpAny_pure (wpAny_bind (wpAny_bind (wpAny_loadPart hx (wpAny_bind (PySem.W.Looks.here (s := { s with toks := s.toks + 1 }) (PySem.W.looks_clsIn X hc) ?_))))))
  rw [hd']
  refine wpAny_pure (a := some dx) (wpAny_bind (wpAny_pure (wpAny_bind ?_)))
  refine wpAny_nsSet1 (s := { s with toks := s.toks + 1 }) I.ns fun h' hn2 hs2 => ?_
  obtain ⟨oD, esD, epD, hoD, hdD, hcD⟩ := hn2.count (PySem.Within.cons name v hw)
  refine wpAny_bind (wpAny_lookBehind hoD (by rw [hdD]; exact pastItsLine_dict (Nat.le_trans hcD (by rw [List.length_cons]; omega))) ?_)
  exact wpAny_pure (h _ ⟨(hs2.2 _ (Ne.symm I.ne)).trans I.obj, hn2, I.ne⟩ hs2)

/-- C(..): the dict at the heap's end, the instance behind it; then its __init__ -/
theorem make_map {R : Result → Shared → Prop} {vs : List Value} {kw : List (Str × Value)} (X : K.In s.heap) (hm : PySem.W.makesIn K C = true)
    (hi : PySem.W.findIn K (.ref C) "__init__" = some (some (.ref f))) (hf : PySem.W.typeIn K (.ref f) = some (.type "function"))
    (h : codeAny (model prog w) (A.under (.builtin "type.__call__" ⟨.ref C :: vs, kw⟩)) (.call (.ref f) ⟨.ref (s.heap.objs.size + 1) :: vs, kw⟩) (PySem.W.InitBack (s.heap.objs.size + 1) R)
      { s with heap := (s.heap.push PySem.W.emptyDict).push (PySem.W.instObj C s.heap.objs.size) }) :
    codeAny (model prog w) A (.call (.ref C) ⟨vs, kw⟩) R s := by
  obtain ⟨hh, g, d, t, os⟩ := s
  exact PySem.W.make_core (PySem.W.makes_of X hm) (PySem.W.looks_findIn X hi) (fun self => PySem.W.bind_fn X self hf) (.inl rfl) h
end

/-! ### the attributes as a list of pairs -/
def putF (f : Str) (v : V) : List (Str × V) → List (Str × V)
  | [] => [(f, v)]
  | (g, x) :: r => if g = f then (g, v) :: r else (g, x) :: putF f v r
theorem lookup_putF (f g : Str) (v : V) : ∀ fs : List (Str × V), (putF f v fs).lookup g = if g = f then some v else fs.lookup g
  | [] => by
    show List.lookup g [(f, v)] = _
    by_cases h : g = f
    · have hb : (g == f) = true := beq_iff_eq.mpr h
      simp only [List.lookup, hb, if_pos h]
    · have hb : (g == f) = false := beq_eq_false_iff_ne.mpr h
      simp only [List.lookup, hb, if_neg h]
  | (k, x) :: r => by
    have ih := lookup_putF f g v r
    rw [show putF f v ((k, x) :: r) = (if k = f then (k, v) :: r else (k, x) :: putF f v r) from rfl]
    by_cases hk : k = f
    · rw [if_pos hk]
      by_cases h : g = k
      · have hb : (g == k) = true := beq_iff_eq.mpr h
        simp only [List.lookup, hb, if_pos (h.trans hk)]
      · have hb : (g == k) = false := beq_eq_false_iff_ne.mpr h
        simp only [List.lookup, hb, if_neg (fun e : g = f => h (e.trans hk.symm))]
    · rw [if_neg hk]
      by_cases h : g = k
      · have hb : (g == k) = true := beq_iff_eq.mpr h
        simp only [List.lookup, hb, if_neg (fun e : g = f => hk (h.symm.trans e))]
      · have hb : (g == k) = false := beq_eq_false_iff_ne.mpr h
        simp only [List.lookup, hb]
        exact ih
theorem keys_putF (f : Str) (v : V) : ∀ fs : List (Str × V), f ∈ (putF f v fs).map (·.1) ∧ ∀ g, g ∈ fs.map (·.1) → g ∈ (putF f v fs).map (·.1)
  | [] => ⟨by simp [putF], fun g h => by simp at h⟩
  | (k, x) :: r => by
    obtain ⟨i1, i2⟩ := keys_putF f v r
    rw [show putF f v ((k, x) :: r) = (if k = f then (k, v) :: r else (k, x) :: putF f v r) from rfl]
    by_cases hk : k = f
    · rw [if_pos hk]
      subst hk
      exact ⟨by simp, fun g h => by simpa using h⟩
    · rw [if_neg hk]
      refine ⟨?_, fun g h => ?_⟩
      · rw [List.map_cons]
        exact List.mem_cons_of_mem _ i1
      · rw [List.map_cons] at h ⊢
        rcases List.mem_cons.mp h with e | e
        · exact List.mem_cons.mpr (.inl e)
        · exact List.mem_cons_of_mem _ (i2 g e)
theorem length_putF (f : Str) (v : V) : ∀ fs : List (Str × V), (putF f v fs).length ≤ fs.length + 1
  | [] => by simp [putF]
  | (k, x) :: r => by
    have ih := length_putF f v r
    rw [show putF f v ((k, x) :: r) = (if k = f then (k, v) :: r else (k, x) :: putF f v r) from rfl]
    by_cases hk : k = f
    · rw [if_pos hk, List.length_cons, List.length_cons]; omega
    · rw [if_neg hk, List.length_cons, List.length_cons]; omega

theorem RelO.some_of {v : V} {o : Option Value} (r : RelO (some v) o) : ∃ u, o = some u ∧ RelV v u := by
  cases o with
  | none => exact (show False from r).elim
  | some u => exact ⟨u, rfl, r⟩
theorem RelO.none_of {o : Option Value} (r : RelO none o) : o = none := by
  cases o with
  | none => rfl
  | some u => exact (show False from r).elim
theorem handed_of {v : V} {u : Value} (r : RelV v u) : PySem.W.handedIn u = true := by
  cases v with
  | non => cases (show u = Value.none from r); rfl
  | bl b => cases (show u = Value.bool b from r); rfl
  | int i => obtain ⟨t, e⟩ := (show ∃ t, u = Value.int i t from r); cases e; rfl
  | str x => obtain ⟨t, e⟩ := (show ∃ t, u = Value.str x t from r); cases e; rfl
  | byt b => obtain ⟨t, e⟩ := (show ∃ t, u = Value.bytes b t from r); cases e; rfl
  | flt b => obtain ⟨t, e⟩ := (show ∃ t, u = Value.float b t from r); cases e; rfl
  | ref a => cases (show u = Value.ref a from r); rfl
  | ty n => cases (show u = Value.type n from r); rfl

section
variable {P : Program} {w : World} {H H' : Hp} {h h' : Heap} {a C dx : Addr} {fs fs' : List (Str × V)}
theorem ins_get (hok : HOk P w H h) (e : H a = some (.ins C dx fs)) : ∃ mA, ObjM h a dx C mA ∧ (∀ f, RelO (fs.lookup f) (mA f)) ∧ PySem.Within mA (fs.map (·.1)) ∧ fs.length ≤ 1000 ∧ H dx = some (.own a) := by
  obtain ⟨d, z, ne, ob, mA, n, r, q⟩ := (show ObjOk P w H h a (.ins C dx fs) from hok a _ e)
  exact ⟨mA, ⟨ob, n, ne⟩, r, q, z, d⟩
end

/-! ### what of the text a class must have -/
structure Cls (K : PySem.W.Frag) (C : Addr) : Prop where
  pg : PySem.W.plainGet K C Str.empty = true
  hd : PySem.W.hasDictIn K C = true
  po : PySem.W.plainOver K C = true
  sa : PySem.W.findIn K (.ref C) "__setattr__" = some (some (.builtin "object.__setattr__"))
theorem Cls.get {K : PySem.W.Frag} {C : Addr} (c : Cls K C) (f : Str) : PySem.W.plainGet K C f = true := c.pg
/-- no class of it has the name -/
def NoAttr (K : PySem.W.Frag) (C : Addr) (f : Str) : Prop := PySem.W.findIn K (.ref C) f = some none
theorem NoAttr.taker {K : PySem.W.Frag} {C : Addr} {f : Str} (n : NoAttr K C f) : PySem.W.takerIn K C f = some none := by
  unfold PySem.W.takerIn
  rw [show PySem.W.findIn K (.ref C) f = some none from n]
  rfl
/-- a constant of the class -/
structure Con (K : PySem.W.Frag) (C : Addr) (f : Str) (v : V) (u : Value) : Prop where
  at_ : PySem.W.findIn K (.ref C) f = some (some u)
  rel : RelV v u
  get : PySem.W.specialIn K u "__get__" = some none
  cp : PySem.W.copiedNames.contains f = false
/-- a method: a plain def of the class or of one above it -/
structure Meth (K : PySem.W.Frag) (C : Addr) (m : Str) (f : Addr) : Prop where
  at_ : PySem.W.findIn K (.ref C) m = some (some (.ref f))
  fn : PySem.W.isFn K (.ref f) = true
  kp : PySem.W.keepIn K (.ref f) = true

section
variable {X : Cx} {pins : List (Addr × Obj)} {σ : St} {H : Hp} {s : Shared} {a C dx : Addr} {fs : List (Str × V)} {f : Str} {v : V} {A : Around} {E : Value → Shared → Prop}

theorem getattr_ok {b : Bool} {Q : Value → Shared → Prop} (I : Inv X pins σ H s) (e : H a = some (.ins C dx fs)) (c : Cls X.K C) (n : NoAttr X.K C f) (l : fs.lookup f = some v)
    (h : ∀ u s', Inv X pins σ H s' → RelV v u → Q u s') : wpAny (model X.prog X.w) A (getAttr (.ref a) f b) Q E s := by
  obtain ⟨mA, O, r, _, _, _⟩ := ins_get I.hok e
  obtain ⟨u, hu, ru⟩ := RelO.some_of (v := v) (o := mA f) (by rw [← l]; exact r f)
  exact get_map I.kIn O (c.get f) c.hd n hu (handed_of ru) (h u _ (I.tok _) ru)


theorem getmeth_ok {m : Str} {g : Addr} {pl : Sem Bool} {Q : Value × List Value → Shared → Prop} (I : Inv X pins σ H s) (e : H a = some (.ins C dx fs)) (c : Cls X.K C) (k : Meth X.K C m g) (l : fs.lookup m = none)
    (h : Q (.ref g, [.ref a]) s) : wpAny (model X.prog X.w) A (getMethod (.ref a) m pl) Q E s := by
  obtain ⟨mA, O, r, _, _, _⟩ := ins_get I.hok e
  have hn : mA m = none := RelO.none_of (by rw [← l]; exact r m)
  exact get_meth I.kIn O (c.get m) k.at_ k.fn hn h

theorem setattr_ok {y : V} {u : Value} {Q : Unit → Shared → Prop} (I : Inv X pins σ H s) (e : H a = some (.ins C dx fs)) (c : Cls X.K C) (n : NoAttr X.K C f) (hl : fs.length < 1000) (ry : RelV y u)
    (h : ∀ s', Inv X pins σ (upd H a (.ins C dx (putF f y fs))) s' → Q () s') : wpAny (model X.prog X.w) A (setAttr (.ref a) f u) Q E s := by
  obtain ⟨mA, O, r, wi, _, ho⟩ := ins_get I.hok e
  have hz : (fs.map (·.1)).length ≤ sizeLine := by rw [List.length_map, sizeLine_eq]; omega
  refine set_map I.kIn O c.sa c.po n.taker c.hd wi hz fun h' O' sb => h _ ?_
  have hd : ∃ o, h'.get? dx = some o := let ⟨o, _, _, e', _⟩ := O'.ns; ⟨o, e'⟩
  refine I.write (x := a) (e := dx) (by rw [e]; exact True.intro) (.inr ho) (fun b q hb z => (sb.2 b hb).trans z) hd ?_
  refine ⟨by rw [upd_ne O.ne]; exact ho, ?_, O.ne, O'.obj, _, O'.ns, fun g => ?_, fun g hg => ?_⟩
  · have := length_putF f y fs; omega
  · show RelO ((putF f y fs).lookup g) (if g = f then some u else mA g)
    rw [lookup_putF]
    by_cases q : g = f
    · rw [if_pos q, if_pos q]; exact ry
    · rw [if_neg q, if_neg q]; exact r g
  · by_cases q : g = f
    · rw [q]; exact (keys_putF f y fs).1
    · refine (keys_putF f y fs).2 g (wi g fun z => hg ?_)
      show (if g = f then some u else mA g) = none
      rw [if_neg q]; exact z

/-- a new instance, tracked, without attributes -/
theorem Inv.made (I : Inv X pins σ H s) : Inv X pins σ (upd (upd H s.heap.objs.size (.own (s.heap.objs.size + 1))) (s.heap.objs.size + 1) (.ins C s.heap.objs.size []))
    { s with heap := (s.heap.push PySem.W.emptyDict).push (PySem.W.instObj C s.heap.objs.size) } := by
  have e1 : (s.heap.push PySem.W.emptyDict).get? s.heap.objs.size = some PySem.W.emptyDict := Heap.get?_push_size s.heap rfl
  have e2 : ((s.heap.push PySem.W.emptyDict).push (PySem.W.instObj C s.heap.objs.size)).get? (s.heap.objs.size + 1) = some (PySem.W.instObj C s.heap.objs.size) := by
    have := Heap.get?_push_size (s.heap.push PySem.W.emptyDict) (o := PySem.W.instObj C s.heap.objs.size) rfl
    rwa [Heap.size_push] at this
  have e3 : (s.heap.push PySem.W.emptyDict).Ns s.heap.objs.size (fun _ => none) := ⟨PySem.W.emptyDict, #[], _, e1, rfl, (fun e he => absurd he (by simp)), fun _ => rfl⟩
  have I1 := I.laid (a := s.heap.objs.size) (o := .own (s.heap.objs.size + 1)) (h' := s.heap.push PySem.W.emptyDict) (t' := s.toks) (fun b u q => Heap.get?_push_of_some _ q) (Nat.le_refl _) ⟨_, e1⟩
  refine I1.laid (a := s.heap.objs.size + 1) (o := .ins C s.heap.objs.size []) (t' := s.toks) (fun b u q => Heap.get?_push_of_some _ q) (Nat.le_of_eq (Heap.size_push _ _)) ?_
  have ne : s.heap.objs.size ≠ s.heap.objs.size + 1 := Nat.ne_of_lt (Nat.lt_succ_self _)
  refine ⟨by rw [upd_ne ne, upd_same], Nat.zero_le _, ne, e2, fun _ => none, (Heap.Ns1.of_empty e3).at fun o q => Heap.get?_push_of_some _ q, fun _ => True.intro, fun y hy => absurd rfl hy⟩

/-- e.f where nothing but the object is asked: through attributeBase (super) and the last hold -/
theorem attr_of {prog : Program} {w : World} {env : Env} {e : Expr} {f : Str} {pos : Pos} {s : Shared} {Q : Value → Shared → Prop} (hb : attributeBase e f env (eval e env) = eval e env)
    (h : wpAny (model prog w) A (eval e env) (fun o s₁ => wpAny (model prog w) A (getAttr o f true) Q E s₁) E s) : wpAny (model prog w) A (eval (.Attribute e f pos) env) Q E s :=
  Attribute_any_ h (by rw [arm_eval_Attribute, hb])
end

/-! ### readings and rules -/
/-- e.f, an attribute of the instance -/
def tFld (K : PySem.W.Frag) (ta : TE) (f : Str) : TE := fun σ H Q => ta σ H fun x H1 => ∃ a C dx fs v, x = .ref a ∧ H1 a = some (.ins C dx fs) ∧ Cls K C ∧ NoAttr K C f ∧ fs.lookup f = some v ∧ Q v H1
/-- e.f, a constant of the class -/
def tCon (K : PySem.W.Frag) (ta : TE) (f : Str) : TE := fun σ H Q => ta σ H fun x H1 => ∃ a C dx fs v u, x = .ref a ∧ H1 a = some (.ins C dx fs) ∧ Cls K C ∧ Con K C f v u ∧ fs.lookup f = none ∧ Q v H1
/-- e.f = value -/
def sFld (K : PySem.W.Frag) (ta tv : TE) (f : Str) : TS := fun D σ H => tv σ H fun y H1 => ta σ H1 fun x H2 => ∃ a C dx fs, x = .ref a ∧ H2 a = some (.ins C dx fs) ∧ Cls K C ∧ NoAttr K C f ∧ fs.length < 1000 ∧
  D.nx σ (upd H2 a (.ins C dx (putF f y fs)))
/-- an augmented operator on two values -/
def InOp (X : Cx) (op : Operator) (rd : V → V → Hp → VK → Prop) : Prop :=
  ∀ (pins : List (Addr × Obj)) (s : Shared) (σ : St) (H : Hp) (x y : V) (u v : Value) (Q : VK), Inv X pins σ H s → RelV x u → RelV y v → rd x y H Q → wpAny (model X.prog X.w) X.A (inplaceOp op u v) (EP X pins σ Q) X.xe s
/-- e.f op= value -/
def sFldAug (K : PySem.W.Frag) (ta tv : TE) (rd : V → V → Hp → VK → Prop) (f : Str) : TS := fun D σ H => ta σ H fun x H1 => ∃ a C dx fs v, x = .ref a ∧ H1 a = some (.ins C dx fs) ∧ Cls K C ∧ NoAttr K C f ∧ fs.lookup f = some v ∧
  tv σ H1 fun y H2 => rd v y H2 fun z H3 => ∃ dx' fs', H3 a = some (.ins C dx' fs') ∧ fs'.length < 1000 ∧ D.nx σ (upd H3 a (.ins C dx' (putF f z fs')))

section
variable {X : Cx} {o e value : Expr} {f : Str} {pos pos' tpos : Pos} {ta tv : TE}
theorem pe_fld (he : PE X e ta) (hb : attributeBase e f X.env (eval e X.env) = eval e X.env) : PE X (.Attribute e f pos) (tFld X.K ta f) := by
  intro pins s σ H Q I h
  refine attr_of hb (thn (he pins s σ H _ I h) fun u s1 ⟨x, H1, I1, rx, a, C, dx, fs, v, ex, ea, c, n, l, q⟩ => ?_)
  subst ex
  obtain rfl : u = Value.ref a := rx
  exact getattr_ok I1 ea c n l fun u' s2 I2 ru => ⟨v, H1, I2, ru, q⟩
theorem ps_fld (ha : PE X o ta) (hv : PE X value tv) (hs : swapsWith value (some (.Attribute o f pos')) pos.line X.env = pure false) : PS X (.Assign [.Attribute o f pos'] value pos) (sFld X.K ta tv f) := by
  intro pins s σ H D I h
  refine plainObj_wpAny_Assign_Attribute (thn (hv pins s σ H _ I h) fun u s1 ⟨y, H1, I1, ry, q⟩ => thn (ha pins s1 σ H1 _ I1 q) fun ov s2 ⟨x, H2, I2, rx, a, C, dx, fs, ex, ea, c, n, l, q2⟩ => ?_) hs
  subst ex
  obtain rfl : ov = Value.ref a := rx
  exact setattr_ok I2 ea c n l ry fun s3 I3 => ⟨σ, _, I3, q2⟩
def rAdd : V → V → Hp → VK → Prop := fun x y H Q => ∃ i j, x = .int i ∧ y = .int j ∧ Q (.int (i + j)) H
def rSub : V → V → Hp → VK → Prop := fun x y H Q => ∃ i j, x = .int i ∧ y = .int j ∧ Q (.int (i - j)) H

end

/-! ### isinstance -/
section
variable {X : Cx} {pins : List (Addr × Obj)} {σ : St} {H : Hp} {s : Shared} {A : Around} {E : Value → Shared → Prop} {Q : Value → Shared → Prop} {c : Value} {b : Bool}
/-- the type of a value, as the fragment's deciders take it; for an instance its class -/
inductive TyOf (K : PySem.W.Frag) (H : Hp) : V → Value → Prop where
  | non : TyOf K H .non (.type "NoneType")
  | bl (x : Bool) : TyOf K H (.bl x) (.type "bool")
  | int (i : Int) : TyOf K H (.int i) (.type "int")
  | str (x : Str) : TyOf K H (.str x) (.type "str")
  | flt (x : UInt64) : TyOf K H (.flt x) (.type "float")
  | lst {a : Addr} {xs : List V} (e : H a = some (.lst xs)) : TyOf K H (.ref a) (.type "list")
  | frz {a : Addr} {o : Obj} {xs : List V} (e : H a = some (.frz o (.lst xs))) : TyOf K H (.ref a) (.type "list")
  | tup {a : Addr} {xs : List V} (e : H a = some (.tup xs)) : TyOf K H (.ref a) (.type "tuple")
  | dK {a : Addr} {kvs : List (Key × V)} (e : H a = some (.dK kvs)) : TyOf K H (.ref a) (.type "dict")
  | dT {a : Addr} {kvs : List (List Key × V)} (e : H a = some (.dT kvs)) : TyOf K H (.ref a) (.type "dict")
  | ins {a C dx : Addr} {fs : List (Str × V)} (e : H a = some (.ins C dx fs)) (cl : Cls K C) (ha : PySem.W.findIn K (.ref C) "__class__" = some (some (.builtin "object.__class__")))
      (hn : PySem.W.specialIn K (.builtin "object.__class__") "__get__" = some (some (.builtin "getset_descriptor.__get__"))) (htk : PySem.W.takesIn K (.builtin "object.__class__") = some true)
      (hm : PySem.W.mroIn K C (.type "object") = some true) : TyOf K H (.ref a) (.ref C)
/-- isinstance(x, c) for one class c, a built-in or an own one: kitOne's answer -/
theorem isinst_ok {x : V} {u t : Value} (I : Inv X pins σ H s) (rx : RelV x u) (ty : TyOf X.K H x t) (e : PySem.W.kitOne X.K t c = some b) (h : ∀ tk, Q (.bool b) { s with toks := tk }) :
    wpAny (model X.prog X.w) A (call (.builtin "isinstance") [u, c]) Q E s := by
  cases ty with
  | non => cases (show u = Value.none from rx); exact PySem.W.kia_one PySem.W.kitx_none I.kIn True.intro e (fun z => nomatch z) h
  | bl y => cases (show u = Value.bool y from rx); exact PySem.W.kia_one PySem.W.kitx_bool I.kIn True.intro e (fun z => nomatch z) h
  | int i => obtain ⟨t, q⟩ := (show ∃ t, u = Value.int i t from rx); cases q; exact PySem.W.kia_one PySem.W.kitx_int I.kIn True.intro e (fun z => nomatch z) h
  | str y => obtain ⟨t, q⟩ := (show ∃ t, u = Value.str y t from rx); cases q; exact PySem.W.kia_one PySem.W.kitx_str I.kIn True.intro e (fun z => nomatch z) h
  | flt y => obtain ⟨t, q⟩ := (show ∃ t, u = Value.float y t from rx); cases q; exact PySem.W.kia_one PySem.W.kitx_float I.kIn True.intro e (fun z => nomatch z) h
  | @lst a xs ea =>
    cases (show u = Value.ref a from rx)
    obtain ⟨_, _, n, _, h1⟩ := (show ObjOk X.prog X.w H s.heap a (.lst xs) from I.hok a _ ea)
    exact PySem.W.kia_one PySem.W.kitx_list I.kIn ⟨_, h1, rfl⟩ e (fun z => nomatch z) h
  | @frz a ob xs ea =>
    cases (show u = Value.ref a from rx)
    obtain ⟨_, _, _, n, _, h1⟩ := (show ObjOk X.prog X.w H s.heap a (.frz ob (.lst xs)) from I.hok a _ ea)
    exact PySem.W.kia_one PySem.W.kitx_list I.kIn ⟨_, h1, rfl⟩ e (fun z => nomatch z) h
  | @tup a xs ea =>
    cases (show u = Value.ref a from rx)
    obtain ⟨_, _, _, p⟩ := (show ObjOk X.prog X.w H s.heap a (.tup xs) from I.hok a _ ea)
    obtain ⟨o, h1, h2, _⟩ := p
    exact PySem.W.kia_one PySem.W.kitx_tuple I.kIn ⟨o, h1, h2⟩ e (fun z => nomatch z) h
  | @dK a kvs ea =>
    cases (show u = Value.ref a from rx)
    obtain ⟨_, _, vs, _, p⟩ := (show ObjOk X.prog X.w H s.heap a (.dK kvs) from I.hok a _ ea)
    obtain ⟨o, es, ep, h1, h2, _⟩ := p
    exact PySem.W.kia_one PySem.W.kitx_dict I.kIn ⟨o, h1, h2.1⟩ e (fun z => nomatch z) h
  | @dT a kvs ea =>
    cases (show u = Value.ref a from rx)
    obtain ⟨_, _, xs, _, o, es, ep, h1, h2, _⟩ := (show ObjOk X.prog X.w H s.heap a (.dT kvs) from I.hok a _ ea)
    exact PySem.W.kia_one PySem.W.kitx_dict I.kIn ⟨o, h1, h2.1⟩ e (fun z => nomatch z) h
  | @ins a C dx fs ea cl ha hn htk hm =>
    cases (show u = Value.ref a from rx)
    obtain ⟨mA, O, _⟩ := ins_get I.hok ea
    obtain ⟨od, J, _⟩ := O.look
    exact PySem.W.kia_one (PySem.W.kitx_own (cl.get _) cl.hd ha hn htk hm) I.kIn J e (fun z => nomatch z) h
end
end L2

namespace L2
open PySem PySem.Spec PyProof.Rows

/-! ### room -/
structure Room (k : Nat) (A : Around) : Prop where
  hd : A.handled = none
  dp : A.depth + 3 * k + 5 < recursionLimit
  un : A.units + 16 * k + 200 < cLine
theorem Room.mono {j k : Nat} {A : Around} (r : Room k A) (h : j ≤ k) : Room j A := ⟨r.hd, by have := r.dp; omega, by have := r.un; omega⟩
theorem Room.deeper {k : Nat} {A : Around} (r : Room (k + 1) A) (env : Env) : Room k (A.deeper env) :=
  ⟨r.hd, by have := r.dp; show A.depth + 1 + 3 * k + 5 < _; omega, by have := r.un; show A.units + 3 + 16 * k + 200 < _; omega⟩
theorem make_depth {A : Around} {C : Addr} {us : List Value} {kw : List (Str × Value)} : (A.under (.builtin "type.__call__" ⟨.ref C :: us, kw⟩)).depth = A.depth + 1 := by
  first | rfl | simp [Around.under, Code.weight, Code.isCreation, Code.isGuard, Code.isCaller, Code.frames, Code.isFrame, guardIds]
theorem make_units {A : Around} {C : Addr} {us : List Value} {kw : List (Str × Value)} : (A.under (.builtin "type.__call__" ⟨.ref C :: us, kw⟩)).units = A.units + 1 := by
  first | rfl | simp [Around.under, Code.cUnits, Code.frames, Code.isFrame]
theorem Room.make {k : Nat} {A : Around} (r : Room (k + 1) A) (C : Addr) (us : List Value) (kw : List (Str × Value)) : Room k (A.under (.builtin "type.__call__" ⟨.ref C :: us, kw⟩)) :=
  ⟨r.hd, by have := r.dp; rw [make_depth]; omega, by have := r.un; rw [make_units]; omega⟩
theorem Room.depth {k : Nat} {A : Around} (r : Room k A) : A.depth < recursionLimit := by have := r.dp; omega
theorem Room.units {k : Nat} {A : Around} (r : Room k A) : A.units + 64 < cLine := by have := r.un; omega

/-! ### argument lists and displays -/
def tNil : TA := fun _ H Q => Q [] H
def tCons (ta : TE) (tr : TA) : TA := fun σ H Q => ta σ H fun x H1 => tr σ H1 fun xs H2 => Q (x :: xs) H2
section
variable {X : Cx} {e : Expr} {es : List Expr} {te : TE} {t : TA} {pos : Pos}
theorem pa_nil : PA X [] tNil := fun _ _ _ _ H Q I h => Calls.spliced_nil ⟨[], H, I, .nil, h⟩
theorem pa_cons (ha : PE X e te) (hr : PA X es t) (hs : starEach (e :: es) X.env = (false, eval e X.env) :: starEach es X.env := by rfl) : PA X (e :: es) (tCons te t) := by
  intro pos pins s σ H Q I h
  rw [hs]
  show wpAny _ _ (spliced ((false, eval e X.env) :: backTo pos (starEach es X.env))) _ _ s
  refine Calls.spliced_cons (thn (ha pins s σ H _ I h) fun u s1 ⟨x, H1, I1, r1, q1⟩ => ?_)
  exact thn (hr pos pins s1 σ H1 _ I1 q1) fun us s2 ⟨xs, H2, I2, r2, q2⟩ => ⟨x :: xs, H2, I2, .cons r1 r2, q2⟩

/-- a tuple, a list of written items -/
def tTup (t : TA) : TE := fun σ H Q => t σ H fun xs H1 => xs.length ≤ sizeLine ∧ ∀ p, H1 p = none → Q (.ref p) (upd H1 p (.tup xs))
def tLst (t : TA) : TE := fun σ H Q => t σ H fun xs H1 => xs.length ≤ sizeLine ∧ ∀ p, H1 p = none → Q (.ref p) (upd H1 p (.lst xs))
theorem pe_tup {x1} (h : PA X es t) : PE X (.Tuple es x1 pos) (tTup t) := by
  intro pins s σ H Q I hq
  refine wpAny_Tuple_spliced (thn (h pos pins s σ H _ I hq) fun us s1 ⟨xs, H1, I1, r, z, q⟩ => ⟨by rw [← r.length]; exact z, ?_⟩)
  have hf : H1 s1.heap.objs.size = none := I1.hok.fresh (Nat.le_refl _)
  refine ⟨.ref s1.heap.objs.size, upd H1 s1.heap.objs.size (.tup xs), I1.laid (t' := s1.toks) (fun b u e => Heap.get?_push_of_some _ e) (Nat.le_refl _) ?_, rfl, q _ hf⟩
  exact ⟨z, us, r, ⟨_, Heap.get?_push_size _ rfl, rfl, _, rfl⟩⟩
theorem pe_lst (h : PA X es t) : PE X (.List es pos) (tLst t) := by
  intro pins s σ H Q I hq
  refine wpAny_List_spliced (thn (h pos pins s σ H _ I hq) fun us s1 ⟨xs, H1, I1, r, z, q⟩ => ⟨by rw [← r.length]; exact z, ?_⟩)
  have hf : H1 s1.heap.objs.size = none := I1.hok.fresh (Nat.le_refl _)
  refine ⟨.ref s1.heap.objs.size, upd H1 s1.heap.objs.size (.lst xs), I1.laid (t' := s1.toks) (fun b u e => Heap.get?_push_of_some _ e) (Nat.le_refl _) ?_, rfl, q _ hf⟩
  exact ⟨z, us, 0, r, Heap.get?_push_size _ rfl⟩
end

/-! ### what a def promises -/
/-- a def's promise: the bound arguments in the parameters' order, the heap, the wanted end, the wanted exception -/
abbrev Sp := List V → Hp → VK → XK → Prop
/-- how an exception lies behind a call (file 08 gives it): the callers' frames, abstract heap and state ahead of the call, the wish, the exception, the state -/
abbrev CXT := List Env → Hp → Shared → XK → Value → Shared → Prop

/-- the state at a call -/
structure Env0 (P : Program) (w : World) (K : PySem.W.Frag) (mg : Str → Option Value) (base : Heap) (A : Around) (outer : List Env) (s : Shared) (H : Hp) : Prop where
  frames : A.frames = some outer
  mod : Mod K mg base
  bs : ∀ b o, base.get? b = some o → s.heap.get? b = some o ∧ H b = none
  bsz : base.objs.size ≤ s.heap.objs.size
  funs : s.heap.FunFrames base outer
  frf : ∀ b ∈ frs outer, H b = none
  hok : HOk P w H s.heap
  bare : AllBare s.gens
/-- a call's end -/
def CE (outer : List Env) (P : Program) (w : World) (H : Hp) (s : Shared) (Q : VK) (u : Value) (s' : Shared) : Prop :=
  ∃ v H', s'.os = s.os ∧ AllBare s'.gens ∧ Un (frs outer) [] H H' s.heap s'.heap ∧ HOk P w H' s'.heap ∧ RelV v u ∧ Q v H'
def CR (CX : CXT) (outer : List Env) (P : Program) (w : World) (H : Hp) (s : Shared) (Q : VK) (E : XK) (r : Result) (s' : Shared) : Prop :=
  match r with
  | .ok (.ret u) => CE outer P w H s Q u s'
  | .ok _ => False
  | .error e => CX outer H s E e s'
structure FnOk (P : Program) (w : World) (K : PySem.W.Frag) (mg : Str → Option Value) (base : Heap) (CX : CXT) (k : Nat) (f : Addr) (fd : FuncData) (ps : List Str) (sp : Sp) : Prop where
  len : ∀ vs H Q E, sp vs H Q E → vs.length = ps.length
  run : ∀ (A : Around) (outer : List Env) (s : Shared) (H : Hp) (args : Args) (us : List Value) (vs : List V) (Q : VK) (E : XK), Room k A → Env0 P w K mg base A outer s H → BindsTo s fd args (ps.zip us) → Vals vs us → sp vs H Q E →
    codeAny (model P w) A (.call (.ref f) args) (CR CX outer P w H s Q E) s

theorem Env0.make {P : Program} {w : World} {K : PySem.W.Frag} {mg : Str → Option Value} {base : Heap} {A : Around} {outer : List Env} {s : Shared} {H : Hp} (e : Env0 P w K mg base A outer s H) (C : Addr) (us : List Value) (kw : List (Str × Value)) :
    Env0 P w K mg base (A.under (.builtin "type.__call__" ⟨.ref C :: us, kw⟩)) outer s H := ⟨by first | exact e.frames | (simpa [Around.under, Code.envs, Code.isFrame, pushEnvs] using e.frames), e.mod, e.bs, e.bsz, e.funs, e.frf, e.hok, e.bare⟩

section
variable {X : Cx} {pins : List (Addr × Obj)} {σ : St} {H : Hp} {s s' : Shared}
/-- from a body: what a callee wants -/
theorem Inv.env0 (I : Inv X pins σ H s) : Env0 X.prog X.w X.K X.mg X.base X.A X.stack s H :=
  ⟨I.ok.frames, I.ok.mod, I.bs, Nat.le_trans I.ok.bsz I.sz, I.stack, I.stkFree, I.hok, I.bare⟩
/-- behind a call -/
theorem Inv.after {Q : VK} {u : Value} (I : Inv X pins σ H s) (h : CE X.stack X.prog X.w H s Q u s') : EP X pins σ Q u s' := by
  obtain ⟨v, H', os, bare, un, hok, r, q⟩ := h
  obtain ⟨hh, g, d, t, os'⟩ := s'
  obtain rfl : os' = s.os := os
  exact ⟨v, H', I.call (h' := hh) (g' := g) (d' := d) (t' := t) (ch := []) un hok bare (fun b z => absurd z (by simp)), r, q⟩
end

/-! ### calls -/
/-- f(..): the written arguments, then the defaults dvs; E: what is wanted of an exception -/
def tCall (sp : Sp) (dvs : List V) (E : XK) (t : TA) : TE := fun σ H Q => t σ H fun vs H1 => sp (vs ++ dvs) H1 Q E
/-- o.m(..) of an instance of the class at C -/
def tMeth (C : Addr) (m : Str) (sp : Sp) (dvs : List V) (E : XK) (ta : TE) (t : TA) : TE := fun σ H Q => ta σ H fun x H1 => ∃ a dx fs, x = .ref a ∧ H1 a = some (.ins C dx fs) ∧ fs.lookup m = none ∧
  t σ H1 fun vs H2 => sp (x :: (vs ++ dvs)) H2 Q E
/-- C(..): a new instance and its dict, then __init__ -/
def tMake (C : Addr) (sp : Sp) (dvs : List V) (E : XK) (t : TA) : TE := fun σ H Q => t σ H fun vs H1 => ∀ x dx, H1 x = none → H1 dx = none → dx ≠ x →
  sp (.ref x :: (vs ++ dvs)) (upd (upd H1 dx (.own x)) x (.ins C dx [])) (fun v H2 => v = .non ∧ Q (.ref x) H2) E

/-- how the parameters are bound: us the positional arguments, kw the keywords' values by name, ds the defaults that fill up -/
def Binds (K : PySem.W.Frag) (fd : FuncData) (ps : List Str) (ds : List Value) : Prop :=
  ∀ (s : Shared) (us : List Value), K.In s.heap → (us ++ ds).length = ps.length → BindsTo s fd ⟨us, []⟩ (ps.zip (us ++ ds))
/-- every parameter is given -/
theorem Binds.all {K : PySem.W.Frag} {fd : FuncData} {ps : List Str} (h : ∀ us : List Value, us.length = ps.length → bindArgs fd ⟨us, []⟩ = pure (ps.zip us)) : Binds K fd ps [] := fun s us _ hl => by
  rw [List.append_nil] at hl ⊢
  exact .of_eq (h us hl)

/-- an exception of a callee reaches what this body wants of exceptions -/
def Passes (CX : CXT) (X : Cx) (E : XK) : Prop := ∀ (pins : List (Addr × Obj)) (σ : St) (H : Hp) (s : Shared) (e : Value) (s' : Shared), Inv X pins σ H s → CX X.stack H s E e s' → X.xe e s'

section
variable {X : Cx} {CX : CXT} {k : Nat} {f C : Addr} {fd : FuncData} {ps : List Str} {sp : Sp} {dvs : List V} {ds : List Value} {E : XK} {x m : Str} {p pos apos : Pos} {e o : Expr} {es : List Expr} {ta : TE} {t : TA}

/-- the callee runs -/
theorem run_fn {pins : List (Addr × Obj)} {σ : St} {H : Hp} {s : Shared} {Q : VK} {us : List Value} {vs : List V} (F : FnOk X.prog X.w X.K X.mg X.base CX k f fd ps sp) (hr : Room k X.A) (hb : Binds X.K fd ps ds) (hd : Vals dvs ds) (hx : Passes CX X E)
    (I : Inv X pins σ H s) (r : Vals vs us) (h : sp (vs ++ dvs) H Q E) : wpAny (model X.prog X.w) X.A (call (.ref f) us) (EP X pins σ Q) X.xe s := by
  have r2 : Vals (vs ++ dvs) (us ++ ds) := r.append hd
  have hl : (us ++ ds).length = ps.length := by rw [← r2.length]; exact F.len _ _ _ _ h
  refine wpAny_call (codeAny_mono (F.run X.A X.stack s H ⟨us, []⟩ (us ++ ds) (vs ++ dvs) Q E hr I.env0 (hb s us I.kIn hl) r2 h) fun r s' hq => ?_)
  cases r with
  | error e => exact hx pins σ H s e s' I hq
  | ok fl =>
    cases fl with
    | ret u => exact I.after hq
    | next => exact False.elim hq
    | brk => exact False.elim hq
    | cont => exact False.elim hq

theorem pe_call (F : FnOk X.prog X.w X.K X.mg X.base CX k f fd ps sp) (hr : Room k X.A) (hg : Gl X x) (hm : X.mg x = some (.ref f)) (hk : PySem.W.keepIn X.K (.ref f) = true) (hb : Binds X.K fd ps ds) (hd : Vals dvs ds) (hx : Passes CX X E)
    (ha : PA X (e :: es) t) (hdb : (x == ("__debug__" : Str)) = false := by decide) (he : starEach (e :: es) X.env = (false, eval e X.env) :: starEach es X.env := by rfl) (hpl : (backTo pos (starEach es X.env)).any (·.1) = false := by rfl) :
    PE X (.Call (.Name x p) (e :: es) [] pos) (tCall sp dvs E t) := by
  intro pins s σ H Q I h
  refine wpAny_Call_Name_kw (ld_glob I hg hm ?_ hdb)
  refine PySem.W.callWith_K (h₀ := X.base) I.ok.mod.kin hk (thn (ha pos pins s σ H _ I h) fun us s1 ⟨vs, H1, I1, r, q⟩ => ⟨I1.kIn, ?_⟩) he hpl
  exact run_fn F hr hb hd hx I1 r q

/-- o.m(e, ..) -/
theorem pe_meth {pl : Sem Bool} (he : PE X o ta) (c : Cls X.K C) (hm : Meth X.K C m f) (F : FnOk X.prog X.w X.K X.mg X.base CX k f fd ps sp) (hr : Room k X.A) (hb : Binds X.K fd ps ds) (hd : Vals dvs ds) (hx : Passes CX X E) (ha : PA X (e :: es) t)
    (hst : starEach (e :: es) X.env = (false, eval e X.env) :: starEach es X.env := by rfl) (hpl : (backTo pos (starEach es X.env)).any (·.1) = false := by rfl)
    (ht : eval (.Call (.Attribute o m apos) (e :: es) [] pos) X.env = (do
      let ov ← eval o X.env
      standAt apos.atName
      let (f, first) ← holding [ov] (getMethod ov m pl)
      callWith pos f first (backTo pos (starEach (e :: es) X.env)) (backToKw pos (keywordEach [] X.env))) := by rfl) :
    PE X (.Call (.Attribute o m apos) (e :: es) [] pos) (tMeth C m sp dvs E ta t) := by
  intro pins s σ H Q I h
  refine PySem.W.methodCall_KW (pl := pl) (thn (he pins s σ H _ I h) fun u s1 ⟨x, H1, I1, rx, a, dx, fs, ex, ea, l, q⟩ => ?_) ht
  subst ex
  obtain rfl : u = Value.ref a := rx
  refine getmeth_ok I1 ea c hm l ?_
  refine PySem.W.callWith_K (first := [.ref a]) (h₀ := X.base) I.ok.mod.kin hm.kp (thn (ha pos pins s1 σ H1 _ I1 q) fun us s2 ⟨vs, H2, I2, r, q2⟩ => ⟨I2.kIn, ?_⟩) hst hpl
  exact run_fn (us := .ref a :: us) (vs := .ref a :: vs) F hr hb hd hx I2 (.cons rfl r) q2
/-- o.m() -/
theorem pe_meth0 {pl : Sem Bool} (he : PE X o ta) (c : Cls X.K C) (hm : Meth X.K C m f) (F : FnOk X.prog X.w X.K X.mg X.base CX k f fd ps sp) (hr : Room k X.A) (hb : Binds X.K fd ps ds) (hd : Vals dvs ds) (hx : Passes CX X E)
    (ht : eval (.Call (.Attribute o m apos) [] [] pos) X.env = (do
      let ov ← eval o X.env
      standAt apos.atName
      let (f, first) ← holding [ov] (getMethod ov m pl)
      callWith pos f first (backTo pos (starEach [] X.env)) (backToKw pos (keywordEach [] X.env))) := by rfl) :
    PE X (.Call (.Attribute o m apos) [] [] pos) (tMeth C m sp dvs E ta tNil) := by
  intro pins s σ H Q I h
  refine PySem.W.methodCall_KW (pl := pl) (thn (he pins s σ H _ I h) fun u s1 ⟨x, H1, I1, rx, a, dx, fs, ex, ea, l, q⟩ => ?_) ht
  subst ex
  obtain rfl : u = Value.ref a := rx
  refine getmeth_ok I1 ea c hm l ?_
  exact PySem.W.callWith_K0 (first := [.ref a]) I1.kIn hm.kp (run_fn (us := [.ref a]) (vs := [.ref a]) F hr hb hd hx I1 (.cons rfl .nil) q)

/-- what a class must have to be made -/
structure Mk (K : PySem.W.Frag) (C f : Addr) : Prop where
  makes : PySem.W.makesIn K C = true
  init : PySem.W.findIn K (.ref C) "__init__" = some (some (.ref f))
  fn : PySem.W.isFn K (.ref f) = true
  kp : PySem.W.keepIn K (.ref C) = true

theorem run_make {pins : List (Addr × Obj)} {σ : St} {H : Hp} {s : Shared} {Q : VK} {us : List Value} {vs : List V} (M : Mk X.K C f) (F : FnOk X.prog X.w X.K X.mg X.base CX k f fd ps sp) (hr : Room (k + 1) X.A) (hb : Binds X.K fd ps ds) (hd : Vals dvs ds)
    (hx : Passes CX X E) (I : Inv X pins σ H s) (r : Vals vs us)
    (h : ∀ x dx, H x = none → H dx = none → dx ≠ x → sp (.ref x :: (vs ++ dvs)) (upd (upd H dx (.own x)) x (.ins C dx [])) (fun v H2 => v = .non ∧ Q (.ref x) H2) E) :
    wpAny (model X.prog X.w) X.A (call (.ref C) us) (EP X pins σ Q) X.xe s := by
  have hq := h (s.heap.objs.size + 1) s.heap.objs.size (I.hok.fresh (Nat.le_succ _)) (I.hok.fresh (Nat.le_refl _)) (Nat.ne_of_lt (Nat.lt_succ_self _))
  have I2 := Inv.made (C := C) I
  have r2 : Vals (V.ref (s.heap.objs.size + 1) :: (vs ++ dvs)) (Value.ref (s.heap.objs.size + 1) :: (us ++ ds)) := .cons rfl (r.append hd)
  have hl : (Value.ref (s.heap.objs.size + 1) :: us ++ ds).length = ps.length := by
    have e := r2.length
    rw [F.len _ _ _ _ hq] at e
    exact e.symm
  refine wpAny_call (make_map (f := f) I.kIn M.makes M.init (beq_iff_eq.mp M.fn) (codeAny_mono (F.run _ X.stack _ _ ⟨Value.ref (s.heap.objs.size + 1) :: us, []⟩ (Value.ref (s.heap.objs.size + 1) :: (us ++ ds)) _ _ E (hr.make C us [])
    (I2.env0.make C us []) (hb _ (Value.ref (s.heap.objs.size + 1) :: us) I2.kIn hl) r2 hq) fun r s' hq' => ?_))
  cases r with
  | error e => exact hx pins σ _ _ e s' I2 hq'
  | ok fl =>
    cases fl with
    | ret u =>
      obtain ⟨v, H', I3, rv, ev, q3⟩ := I2.after hq'
      subst ev
      exact ⟨rv, ⟨V.ref (s.heap.objs.size + 1), H', I3, rfl, q3⟩⟩
    | next => exact False.elim hq'
    | brk => exact False.elim hq'
    | cont => exact False.elim hq'
theorem pe_make (M : Mk X.K C f) (F : FnOk X.prog X.w X.K X.mg X.base CX k f fd ps sp) (hr : Room (k + 1) X.A) (hg : Gl X x) (hm : X.mg x = some (.ref C)) (hb : Binds X.K fd ps ds) (hd : Vals dvs ds) (hx : Passes CX X E)
    (ha : PA X (e :: es) t) (hdb : (x == ("__debug__" : Str)) = false := by decide) (he : starEach (e :: es) X.env = (false, eval e X.env) :: starEach es X.env := by rfl) (hpl : (backTo pos (starEach es X.env)).any (·.1) = false := by rfl) :
    PE X (.Call (.Name x p) (e :: es) [] pos) (tMake C sp dvs E t) := by
  intro pins s σ H Q I h
  refine wpAny_Call_Name_kw (ld_glob I hg hm ?_ hdb)
  refine PySem.W.callWith_K (h₀ := X.base) I.ok.mod.kin M.kp (thn (ha pos pins s σ H _ I h) fun us s1 ⟨vs, H1, I1, r, q⟩ => ⟨I1.kIn, ?_⟩) he hpl
  exact run_make M F hr hb hd hx I1 r q
end

/-! ### keywords -/
/-- the values of the keywords, from the left -/
def PK (X : Cx) (kws : List Keyword) (t : TA) : Prop :=
  ∀ (pos : Pos) (pins : List (Addr × Obj)) (s : Shared) (σ : St) (H : Hp) (Q : List V → Hp → Prop), Inv X pins σ H s → t σ H Q → wpAny (model X.prog X.w) X.A (evalAll ((backToKw pos (keywordEach kws X.env)).map (·.2))) (AP X pins σ Q) X.xe s
section
variable {X : Cx} {CX : CXT} {k : Nat} {f C : Addr} {fd : FuncData} {ps ks : List Str} {sp : Sp} {E : XK} {x m : Str} {p pos apos kpos : Pos} {e o : Expr} {es : List Expr} {kws : List Keyword} {te ta : TE} {t tk : TA} {nm : Option Str}

/-- how a call with keywords binds: g puts the positional values us and the keywords' values ws (names ks) in the parameters' order, defaults among them -/
structure KBinds (K : PySem.W.Frag) (fd : FuncData) (ps ks : List Str) (g : List Value → List Value → List Value) (gV : List V → List V → List V) : Prop where
  to : ∀ (s : Shared) (us ws : List Value), K.In s.heap → (g us ws).length = ps.length → BindsTo s fd ⟨us, ks.zip ws⟩ (ps.zip (g us ws))
  rel : ∀ {vs : List V} {us : List Value} {zs : List V} {ws : List Value}, Vals vs us → Vals zs ws → Vals (gV vs zs) (g us ws)
def tCallK (sp : Sp) (gV : List V → List V → List V) (E : XK) (t tk : TA) : TE := fun σ H Q => t σ H fun vs H1 => tk σ H1 fun zs H2 => sp (gV vs zs) H2 Q E
variable {g : List Value → List Value → List Value} {gV : List V → List V → List V}
end

/-! ### a def's body keeps its promise -/
/-- names: the parameters first -/
structure FnScope (N P : List Str) (sc : Scope) : Prop where
  kind : sc.kind = .function
  co : sc.isCoroutine = false
  gen : sc.isGenerator = false
  nd : N.Nodup
  pre : N.take P.length = P
  par : ∀ x ∈ P, sc.names.lookup x = some .local ∨ sc.names.lookup x = some .cell
  nofree : ∀ y ∈ sc.names, y.2 ≠ .free

theorem bindL_out {kindOf : Str → Option NameKind} {x : Str} : ∀ {binds : List (Str × Value)} {m : Str → Option Value}, (∀ v, (x, v) ∉ binds) → bindL kindOf binds m x = m x
  | [], _, _ => rfl
  | (n, v) :: r, m, h => by
    unfold bindL
    rw [bindL_out fun w hw => h w (List.mem_cons_of_mem _ hw)]
    split
    · have : x ≠ n := by rintro rfl; exact h v List.mem_cons_self
      simp [this]
    · rfl
theorem bindC_out {kindOf : Str → Option NameKind} {x : Str} : ∀ {binds : List (Str × Value)} {m : Str → Option Value}, (∀ v, (x, v) ∉ binds) → bindC kindOf binds m x = m x
  | [], _, _ => rfl
  | (n, v) :: r, m, h => by
    unfold bindC
    rw [bindC_out fun w hw => h w (List.mem_cons_of_mem _ hw)]
    split
    · rfl
    · have : x ≠ n := by rintro rfl; exact h v List.mem_cons_self
      simp [this]
theorem bindL_get {kindOf : Str → Option NameKind} {x : Str} {v : Value} : ∀ {P : List Str} {vs : List Value} {i : Nat} {m : Str → Option Value}, P.Nodup → P[i]? = some x → vs[i]? = some v → kindOf x = some .local →
    bindL kindOf (P.zip vs) m x = some v
  | [], _, _, _, _, h, _, _ => by simp at h
  | _ :: _, [], _, _, _, _, h, _ => by simp at h
  | p :: P, w :: vs, 0, m, nd, h1, h2, hk => by
    simp at h1 h2; subst h1; subst h2
    show bindL kindOf ((p, w) :: P.zip vs) m p = _
    unfold bindL
    rw [bindL_out fun v hv => (List.nodup_cons.mp nd).1 (List.of_mem_zip hv).1, if_pos hk]
    simp
  | p :: P, w :: vs, i + 1, m, nd, h1, h2, hk => by
    show bindL kindOf ((p, w) :: P.zip vs) m x = _
    unfold bindL
    exact bindL_get (i := i) (List.nodup_cons.mp nd).2 (by simpa using h1) (by simpa using h2) hk
theorem bindC_get {kindOf : Str → Option NameKind} {x : Str} {v : Value} : ∀ {P : List Str} {vs : List Value} {i : Nat} {m : Str → Option Value}, P.Nodup → P[i]? = some x → vs[i]? = some v → kindOf x ≠ some .local →
    bindC kindOf (P.zip vs) m x = some v
  | [], _, _, _, _, h, _, _ => by simp at h
  | _ :: _, [], _, _, _, _, h, _ => by simp at h
  | p :: P, w :: vs, 0, m, nd, h1, h2, hk => by
    simp at h1 h2; subst h1; subst h2
    show bindC kindOf ((p, w) :: P.zip vs) m p = _
    unfold bindC
    rw [bindC_out fun v hv => (List.nodup_cons.mp nd).1 (List.of_mem_zip hv).1, if_neg hk]
    simp
  | p :: P, w :: vs, i + 1, m, nd, h1, h2, hk => by
    show bindC kindOf ((p, w) :: P.zip vs) m x = _
    unfold bindC
    exact bindC_get (i := i) (List.nodup_cons.mp nd).2 (by simpa using h1) (by simpa using h2) hk

/-- the names' values at the entry -/
def start (N : List Str) (vs : List V) : St := vs.map some ++ List.replicate (N.length - vs.length) none

/-- the context of a def's body, at its entry; an exception leaves the frame, then lies as CX says -/
def cxOf (CX : CXT) (P : Program) (w : World) (K : PySem.W.Frag) (mg : Str → Option Value) (base : Heap) (N : List Str) (qual : Str) (scope : Scope) (f : Addr) (cd : Value) (A : Around) (outer : List Env) (s : Shared) (H : Hp) (E : XK) : Cx where
  prog := P
  w := w
  K := K
  mg := mg
  base := base
  A := A.deeper (envOfC qual scope s.heap.objs.size f cd)
  N := N
  s₀ := s
  H₀ := H
  env := envOfC qual scope s.heap.objs.size f cd
  outer := outer
  stack := envOfC qual scope s.heap.objs.size f cd :: outer
  ex := []
  calm := true
  fn := fun _ => true
  pn := []
  xe := fun e s' => wpAny (model P w) (A.deeper (envOfC qual scope s.heap.objs.size f cd)) (leaving (envOfC qual scope s.heap.objs.size f cd) e) (fun _ s'' => CX outer H s E e s'') (fun e' s'' => CX outer H s E e' s'') s'

theorem cell_has {sc : Scope} {n : Nat} {x : Str} (h : sc.names.lookup x = some .cell) : ∃ c, (cellsFrom n sc.names []).lookup x = some c := by
  have q := PySem.W.cellsFrom_some sc.names n [] (.inl h)
  exact Option.isSome_iff_exists.mp q

theorem inv_start {CX : CXT} {P : Program} {w : World} {K : PySem.W.Frag} {mg : Str → Option Value} {base : Heap} {N ps : List Str} {qual : Str} {scope : Scope} {f : Addr} {cd : Value} {A : Around} {outer : List Env} {s s1 : Shared} {H : Hp} {E : XK} {us : List Value} {vs : List V}
    (S : FnScope N ps scope) (hd : A.handled = none) (e0 : Env0 P w K mg base A outer s H) (hl : vs.length = ps.length) (r : Vals vs us)
    (x : InCallC s s.heap.objs.size (bindL (envOfC qual scope s.heap.objs.size f cd).kindOf (ps.zip us) fun _ => none) (cellsFrom (s.heap.objs.size + 1) scope.names []) (bindC (envOfC qual scope s.heap.objs.size f cd).kindOf (ps.zip us) fun _ => none) s1) :
    Inv (cxOf CX P w K mg base N qual scope f cd A outer s H E) [] (start N vs) H s1 := by
  have hpl : ps.length ≤ N.length := by have := congrArg List.length S.pre; rw [List.length_take] at this; omega
  obtain ⟨h1, tk, rfl, hk⟩ := x.done
  have noA : ∀ b : Addr, b ∉ (cxOf CX P w K mg base N qual scope f cd A outer s H E).ex := fun b z => absurd (show b ∈ ([] : List Addr) from z) (by simp)
  refine ⟨⟨e0.mod, S.kind, rfl, rfl, Nat.le_refl _, fun y z c h1 h2 => ?_, fun y hy => ?_, fun y c _ h => ?_, fun _ => hd, Around.frames_deeper e0.frames, .inr ⟨rfl, rfl⟩, fun b z => absurd z (noA b), e0.bs, e0.bsz, fun b _ _ => noA b, fun b z => absurd z (noA b), e0.funs, e0.frf⟩,
    rfl, e0.bare, Un.kept hk, ⟨_, x.toInCall.ns, fun i y v h1 h2 h3 => ?_⟩, fun y c h => ⟨_, x.cell y c h⟩, e0.hok.fresh (Nat.le_refl _), fun y c h => ?_, fun p hp => absurd (show p ∈ ([] : List (Addr × Obj)) from hp) (by simp), e0.hok.kept hk, ?_⟩
  · exact name_of_addr x.apart (PySem.mem_of_lookup h1) (PySem.mem_of_lookup h2)
  · have hy : scope.names.lookup y = some .cell ∨ scope.names.lookup y = some .free := hy
    rcases hy with hy | hy
    · exact cell_has hy
    · exact absurd rfl (S.nofree _ (PySem.mem_of_lookup hy))
  · exact Nat.le_of_lt (x.above y c (PySem.mem_of_lookup h))
  · have hi : i < vs.length := by
      unfold start at h2
      by_cases hi : i < vs.length
      · exact hi
      · rw [List.getElem?_append_right (by simpa using hi)] at h2
        rw [List.getElem?_replicate] at h2
        split at h2 <;> cases h2
    have ha : vs[i]? = some v := by
      unfold start at h2
      rw [List.getElem?_append_left (by simpa using hi), List.getElem?_map] at h2
      cases e : vs[i]? with
      | none => rw [e] at h2; cases h2
      | some a => rw [e] at h2; cases h2; rfl
    obtain ⟨u, hu, rv⟩ := r.get ha
    have hp : ps[i]? = some y := by
      rw [← S.pre, List.getElem?_take_of_lt (by omega)]; exact h1
    have ndP : ps.Nodup := by rw [← S.pre]; exact S.nd.sublist (List.take_sublist _ _)
    refine ⟨u, rv, ?_⟩
    rcases S.par y (List.mem_of_getElem? hp) with k | k
    · exact .inl ⟨k, bindL_get ndP hp hu k⟩
    · obtain ⟨c, e⟩ := cell_has (n := s.heap.objs.size + 1) k
      refine .inr ⟨.inl k, c, e, ?_⟩
      have q := x.cell y c e
      rw [bindC_get ndP hp hu (by show scope.names.lookup y ≠ _; rw [k]; decide)] at q
      exact q
  · exact e0.hok.fresh (Nat.le_of_lt (x.above y c (PySem.mem_of_lookup h)))
  · unfold start
    show _ = N.length
    rw [List.length_append, List.length_map, List.length_replicate]
    omega

/-- THE RULE: a def (or a method) of the text, by its body. The body's reading t is chosen for each entry; it is run at the parameters' values -/
theorem fn_of {CX : CXT} {P : Program} {w : World} {K : PySem.W.Frag} {mg : Str → Option Value} {base : Heap} {k : Nat} {f : Addr} {name qual : Str} {params : Arguments} {body : List Stmt} {scope : Scope} {dV kV doc pm cdv ct oc : Value} {an od : Option Addr}
    {osl : Array (Option Value)} {N ps : List Str} {sp : Sp} (lk : K.lookup f = some ⟨oc, od, .func (PySem.W.fnOf name qual params body scope dV kV doc pm an cdv ct), osl⟩) (hcd : PySem.W.codeIn K cdv qual = true) (S : FnScope N ps scope)
    (len : ∀ vs H Q E, sp vs H Q E → vs.length = ps.length)
    (hbody : ∀ (A : Around) (outer : List Env) (s : Shared) (H : Hp) (vs : List V) (Q : VK) (E : XK), Room k (A.deeper (envOfC qual scope s.heap.objs.size f cdv)) → sp vs H Q E →
      ∃ t, PSs (cxOf CX P w K mg base N qual scope f cdv A outer s H E) body t ∧ t { nx := fun _ H' => Q .non H', rt := Q } (start N vs) H) :
    FnOk P w K mg base CX (k + 1) f (PySem.W.fnOf name qual params body scope dV kV doc pm an cdv ct) ps sp := by
  refine ⟨len, fun A outer s H args us vs Q E hr e0 hb r hsp => ?_⟩
  have hl := len _ _ _ _ hsp
  have KX : K.In s.heap := e0.mod.kin.keeps fun b o e => (e0.bs b o e).1
  have lim : s.heap.NoLimit := e0.mod.nolimit.keeps fun b o e => (e0.bs b o e).1
  have hkind : ∀ y ∈ ps.zip us, scope.names.lookup y.1 = some .local ∨ (scope.names.lookup y.1 = some .cell ∧ ((cellsFrom (s.heap.objs.size + 1) scope.names []).lookup y.1).isSome = true) := fun ⟨n, v⟩ hy => by
    rcases S.par n (List.of_mem_zip hy).1 with q | q
    · exact .inl q
    · exact .inr ⟨q, PySem.W.cellsFrom_some _ _ _ (.inl q)⟩
  refine codeAny_call_function hr.depth (KX _ _ lk) rfl S.co S.gen rfl (PySem.W.codeRec_of KX hcd) (hb _ _ _ _ ?_)
  refine wpAny_newFunctionEnv_cells S.kind hkind fun env he s1 x => ?_
  subst he
  refine ⟨lim.keeps x.toInCall.keep, codeAny_func ?_⟩
  obtain ⟨t, ht, hq⟩ := hbody A outer s H vs Q E (hr.deeper _) hsp
  have I : Inv (cxOf CX P w K mg base N qual scope f cdv A outer s H E) [] (start N vs) H s1 := inv_start S hr.hd e0 hl r x
  refine wpAny_mono (ht [] s1 (start N vs) H _ I hq) (fun fl s' hs => ?_) fun e s' hs => hs
  have fin : ∀ {σ' : St} {H' : Hp} {v : V} {u : Value}, Inv (cxOf CX P w K mg base N qual scope f cdv A outer s H E) [] σ' H' s' → RelV v u → Q v H' → CE outer P w H s Q u s' :=
    fun {σ' H' v u} J rv q => ⟨v, H', J.os, J.bare, J.base, J.hok, rv, q⟩
  cases fl with
  | ret u =>
    obtain ⟨v, σ', H', J, rv, q⟩ := hs
    exact fin J rv q
  | next =>
    obtain ⟨σ', H', J, q⟩ := hs
    exact fin (v := V.non) (u := Value.none) J rfl q
  | brk =>
    obtain ⟨_, _, _, q⟩ := hs
    exact False.elim q
  | cont =>
    obtain ⟨_, _, _, q⟩ := hs
    exact False.elim q
end L2

namespace L2
open PySem PySem.Spec PyProof.Rows
section
variable {X : Cx} {x : Str} {p pos : Pos} {e : Expr} {es : List Expr} {t : TA} {id T : String} {r : List V → Hp → VK → Prop}

def tCB (r : List V → Hp → VK → Prop) (t : TA) : TE := fun σ H Q => t σ H fun vs H1 => r vs H1 Q
/-- f(e, ..), f a built-in function -/
theorem pe_callB (hc : CallR X (.builtin id) r) (hg : Gl X x) (hm : X.mg x = none) (hv : bootBuiltins x = some (.builtin id)) (ha : PA X (e :: es) t) (hn : x ≠ "__name__" := by decide) (hdb : (x == ("__debug__" : Str)) = false := by decide)
    (he : starEach (e :: es) X.env = (false, eval e X.env) :: starEach es X.env := by rfl) (hpl : (backTo pos (starEach es X.env)).any (·.1) = false := by rfl) : PE X (.Call (.Name x p) (e :: es) [] pos) (tCB r t) := by
  intro pins s σ H Q I h
  refine wpAny_Call_Name_kw (ld_blt I hg hm hv ?_ hn hdb)
  exact PyProof.Rows.callWith_builtin1 (thn (ha pos pins s σ H _ I h) fun us s1 ⟨vs, H1, I1, r1, q1⟩ => hc pins s1 σ H1 vs us Q I1 r1 q1) he hpl
/-- T(e, ..), T a built-in type -/
theorem pe_callTy (hc : CallR X (.type T) r) (hg : Gl X x) (hm : X.mg x = none) (hv : bootBuiltins x = some (.type T)) (ha : PA X (e :: es) t) (hn : x ≠ "__name__" := by decide) (hdb : (x == ("__debug__" : Str)) = false := by decide)
    (he : starEach (e :: es) X.env = (false, eval e X.env) :: starEach es X.env := by rfl) (hpl : (backTo pos (starEach es X.env)).any (·.1) = false := by rfl) : PE X (.Call (.Name x p) (e :: es) [] pos) (tCB r t) := by
  intro pins s σ H Q I h
  refine wpAny_Call_Name_kw (ld_blt I hg hm hv ?_ hn hdb)
  exact PyProof.Rows.callWith_type1 (thn (ha pos pins s σ H _ I h) fun us s1 ⟨vs, H1, I1, r1, q1⟩ => hc pins s1 σ H1 vs us Q I1 r1 q1) he hpl
end
end L2

namespace HT
open PySem PyProof.Rows

/-- t < u of tuples of ints -/
def lexLt : List Int → List Int → Bool
  | [], [] => false
  | [], _ :: _ => true
  | _ :: _, [] => false
  | x :: xs, y :: ys => if x = y then lexLt xs ys else decide (x < y)
theorem lexLt_cons (x y : Int) (xs ys : List Int) : lexLt (x :: xs) (y :: ys) = if x = y then lexLt xs ys else decide (x < y) := rfl
theorem lexLt_nil_nil : lexLt [] [] = false := rfl
theorem lexLt_nil_cons (y : Int) (ys : List Int) : lexLt [] (y :: ys) = true := rfl
theorem lexLt_cons_nil (x : Int) (xs : List Int) : lexLt (x :: xs) [] = false := rfl


section
open PySem.SeqAt
open PySem.AutoSeq1 (wpAny_loadPart')
open PySem.MeetsSeq PySem.MeetsSeq2 PySem.MeetsSeq3

end

section
variable {prog : Program} {w : World} {A : Around} {E : Value → Shared → Prop} {s : Shared}



/-! ### t[a:b], not the whole -/
/-- a slice's bound as a place among n (d where it is left out) -/
def sIx (n d : Nat) : Option Int → Nat
  | none => d
  | some v => if v < 0 then (v + (n : Int)).toNat else min v.toNat n

end
end HT

namespace L2
open PySem PySem.Spec PyProof.Rows

/-! ### the parts of a slice -/
abbrev TO := St → Hp → (Option Int → Hp → Prop) → Prop
/-- a slice's part (left out, or an int) -/
def PO (X : Cx) (e : Option Expr) (t : TO) : Prop :=
  ∀ (pins : List (Addr × Obj)) (s : Shared) (σ : St) (H : Hp) (Q : Option Int → Hp → Prop), Inv X pins σ H s → t σ H Q →
    wpAny (model X.prog X.w) X.A (evalPart e X.env) (fun u s' => ∃ o H', Inv X pins σ H' s' ∧ IsPart u o ∧ Q o H') X.xe s
def tNoPart : TO := fun _ H Q => Q none H
def tPart (t : TE) : TO := fun σ H Q => t σ H fun x H1 => ∃ i, x = .int i ∧ Q (some i) H1

theorem intsAre_of {ns : List Int} : ∀ {us : List Value}, Vals (ns.map V.int) us → IntsAre us ns := by
  induction ns with
  | nil => intro us r; rw [List.map_nil] at r; cases r; exact .nil
  | cons n ns ih =>
    intro us r
    rw [List.map_cons] at r
    cases r with
    | cons r1 r2 =>
      obtain ⟨t, e⟩ := r1
      subst e
      exact .cons n t (ih r2)

section
variable {X : Cx} {e : Expr} {te : TE} {lo hi : Option Expr} {tl th : TO} {pos p2 : Pos}

theorem po_none : PO X none tNoPart := by
  intro pins s σ H Q I h
  rw [evalPart_none]
  exact wpAny_pure ⟨none, H, I, .none, h⟩
theorem po_some (h : PE X e te) : PO X (some e) (tPart te) := by
  intro pins s σ H Q I hw
  rw [evalPart_some]
  refine thn (h pins s σ H _ I hw) fun u s1 ⟨x, H1, I1, r1, q1⟩ => ?_
  obtain ⟨i, rfl, q⟩ := q1
  obtain ⟨t, rfl⟩ := r1
  exact ⟨some i, H1, I1, .int i t, q⟩

/-- what a slice of a value is, by values: the slice object stands at sl -/
def SlR (X : Cx) (r : V → Option Int → Option Int → Hp → VK → Prop) : Prop :=
  ∀ (pins : List (Addr × Obj)) (s : Shared) (σ : St) (H : Hp) (x : V) (v vl vu : Value) (lo hi : Option Int) (sl : Addr) (Q : VK), Inv X pins σ H s → RelV x v → s.heap.IsSliceOf sl vl vu .none → IsPart vl lo → IsPart vu hi → r x lo hi H Q →
    ∃ T id, typeLookup (.type T) "__getitem__" = pure (some (.builtin id)) ∧ s.TypeIs v T ∧ wpAny (model X.prog X.w) X.A (getItem v (.ref sl)) (EP X pins σ Q) X.xe s
def tSl (r : V → Option Int → Option Int → Hp → VK → Prop) (te : TE) (tl th : TO) : TE := fun σ H Q => te σ H fun x H1 => tl σ H1 fun l H2 => th σ H2 fun u H3 => r x l u H3 Q
/-- a[lo:hi], any a -/
theorem pe_slice {r : V → Option Int → Option Int → Hp → VK → Prop} (hr : SlR X r) (he : PE X e te) (hl : PO X lo tl) (hu : PO X hi th) : PE X (.Subscript e (.Slice lo hi none p2) pos) (tSl r te tl th) := by
  intro pins s σ H Q I h
  refine Subscript_ (thn (he pins s σ H _ I h) fun v s1 ⟨x, H1, I1, r1, q1⟩ => ?_)
  refine wpAny_Slice (thn (hl pins s1 σ H1 _ I1 q1) fun vl s2 ⟨l, H2, I2, pl, q2⟩ => thn (hu pins s2 σ H2 _ I2 q2) fun vu s3 ⟨u, H3, I3, pu, q3⟩ => ?_)
  rw [evalPart_none]
  refine wpAny_pure ?_
  have I4 : Inv X pins σ H3 { s3 with heap := s3.heap.push { cls := .type "slice", data := .fields #[vl, vu, .none] } } := I3.kept (t' := s3.toks) fun b ob q => Heap.get?_push_of_some _ q
  obtain ⟨T, id, hT, ht, hg⟩ := hr pins { s3 with heap := s3.heap.push { cls := .type "slice", data := .fields #[vl, vu, .none] } } σ H3 x v vl vu l u s3.heap.objs.size Q I4 r1 (Heap.IsSliceOf.new ..) pl pu q3
  show wpAny (model X.prog X.w) X.A (subscriptTail e (.Slice lo hi none p2) v (.ref s3.heap.objs.size)) (EP X pins σ Q) X.xe { s3 with heap := s3.heap.push { cls := .type "slice", data := .fields #[vl, vu, .none] } }
  exact tail_any (ops := [.ref s3.heap.objs.size, v]) ht hT hg (by with_unfolding_all rfl)

/-- the items of xs[lo:hi] -/
def cutV (xs : List V) (lo hi : Option Int) : List V := (xs.drop (HT.sIx xs.length 0 lo)).take (HT.sIx xs.length xs.length hi - HT.sIx xs.length 0 lo)
theorem cutV_length (xs : List V) (lo hi : Option Int) : (cutV xs lo hi).length ≤ xs.length := by
  unfold cutV
  rw [List.length_take, List.length_drop]
  omega
/-- t[lo:hi], not the whole of it (the whole would be t itself) -/
def rSlT (K : PySem.W.Frag) : V → Option Int → Option Int → Hp → VK → Prop := fun x lo hi H Q => ∃ a xs, x = .ref a ∧ SqT K H a xs ∧
  ¬ (HT.sIx xs.length 0 lo = 0 ∧ HT.sIx xs.length xs.length hi = xs.length) ∧ ∀ p, H p = none → Q (.ref p) (upd H p (.tup (cutV xs lo hi)))

/-! ### t < u, t + u -/
def rLtT (K : PySem.W.Frag) : R2 := fun x y H Q => ∃ a b ns ms, x = .ref a ∧ y = .ref b ∧ SqT K H a (ns.map V.int) ∧ SqT K H b (ms.map V.int) ∧ Q (.bl (HT.lexLt ns ms)) H
/-- t + u, t not empty: u empty gives t itself -/
def rCatT (K : PySem.W.Frag) : R2 := fun x y H Q => ∃ a b xs ys, x = .ref a ∧ y = .ref b ∧ SqT K H a xs ∧ SqT K H b ys ∧ xs ≠ [] ∧ xs.length + ys.length ≤ sizeLine ∧
  (ys = [] → Q (.ref a) H) ∧ (ys ≠ [] → ∀ p, H p = none → Q (.ref p) (upd H p (.tup (xs ++ ys))))
end
end L2

namespace L2
open PySem PySem.Spec PyProof.Rows

/-! ### places -/
/-- the place that an index of any sign means -/
def ixN (n : Nat) (i : Int) : Option Nat := if 0 ≤ i then (if i < n then some i.toNat else none) else if -(n : Int) ≤ i then some (i + n).toNat else none
def atI {α : Type} (xs : List α) (i : Int) : Option α := (ixN xs.length i).bind fun j => xs[j]?
theorem ixN_seq {n : Nat} {i : Int} {j : Nat} (h : ixN n i = some j) : seqIndex? i n = some j ∧ j < n ∧ -(n : Int) ≤ i ∧ i < n := by
  unfold ixN at h
  by_cases h0 : 0 ≤ i
  · rw [if_pos h0] at h
    by_cases h1 : i < n
    · rw [if_pos h1] at h
      have e : i.toNat = j := Option.some.inj h
      exact ⟨by rw [seqIndex_of h0 h1, e], by omega, by omega, h1⟩
    · rw [if_neg h1] at h; cases h
  · rw [if_neg h0] at h
    by_cases h1 : -(n : Int) ≤ i
    · rw [if_pos h1] at h
      have e : (i + n).toNat = j := Option.some.inj h
      exact ⟨by rw [seqIndex_neg (by omega) h1, e], by omega, h1, by omega⟩
    · rw [if_neg h1] at h; cases h
theorem atI_get {α : Type} {xs : List α} {i : Int} {v : α} (h : atI xs i = some v) : ∃ j, seqIndex? i xs.length = some j ∧ xs[j]? = some v ∧ j < xs.length ∧ -(xs.length : Int) ≤ i ∧ i < xs.length := by
  unfold atI at h
  cases e : ixN xs.length i with
  | none => rw [e] at h; cases h
  | some j =>
    rw [e] at h
    obtain ⟨h1, h2, h3, h4⟩ := ixN_seq e
    exact ⟨j, h1, h, h2, h3, h4⟩
theorem atI_nat {α : Type} {xs : List α} {j : Nat} {v : α} (h : xs[j]? = some v) : atI xs (j : Int) = some v := by
  have hj : j < xs.length := (List.getElem?_eq_some_iff.mp h).1
  have e : ixN xs.length (j : Int) = some j := by
    unfold ixN
    rw [if_pos (by omega), if_pos (by omega)]; simp
  unfold atI; rw [e]; exact h

/-! ### what may be subscripted -/
/-- what stands as an index of a plain subscript -/
def PlainIx (b : Expr) : Prop := ∀ o i, subscripted b false o i = operate [o, i] (getItem o i)
/-- a subscript by values -/
def IxR (X : Cx) (r : R2) : Prop :=
  ∀ (value slice : Expr) (pins : List (Addr × Obj)) (s : Shared) (σ : St) (H : Hp) (x y : V) (v u : Value) (Q : VK), Inv X pins σ H s → RelV x v → RelV y u → r x y H Q →
    subscripted slice false v u = operate [v, u] (getItem v u) → wpAny (model X.prog X.w) X.A (subscriptTail value slice v u) (EP X pins σ Q) X.xe s
/-- a call of a builtin's method by values: the receiver, the arguments -/
def MtR (X : Cx) (id : String) (r : V → List V → Hp → VK → Prop) : Prop :=
  ∀ (pins : List (Addr × Obj)) (s : Shared) (σ : St) (H : Hp) (x : V) (xs : List V) (v : Value) (us : List Value) (Q : VK), Inv X pins σ H s → RelV x v → Vals xs us → r x xs H Q →
    wpAny (model X.prog X.w) X.A (call (.builtin id) (v :: us)) (EP X pins σ Q) X.xe s
section
variable {X : Cx} {a b : Expr} {ta tb : TE} {pos : Pos}
/-- a[b] -/
theorem pe_ix {r : R2} (hr : IxR X r) (ha : PE X a ta) (hb : PE X b tb) (hs : PlainIx b) : PE X (.Subscript a b pos) (tOp r ta tb) := by
  intro pins s σ H Q I h
  exact Subscript_ (binT ha hb I h fun v u s2 x y H2 I2 rx ry q => hr a b pins s2 σ H2 x y v u Q I2 rx ry q (hs _ _))

def rIxL (K : PySem.W.Frag) : R2 := fun x y H Q => ∃ p xs i v, x = .ref p ∧ y = .int i ∧ SqL K H p xs ∧ atI xs i = some v ∧ Q v H
def rIxT (K : PySem.W.Frag) : R2 := fun x y H Q => ∃ p xs i v, x = .ref p ∧ y = .int i ∧ SqT K H p xs ∧ atI xs i = some v ∧ Q v H
def rIxS : R2 := fun x y H Q => ∃ z i c, x = .str z ∧ y = .int i ∧ z.length ≤ sizeLine ∧ atI z.cps.toList i = some c ∧ Q (.str ⟨#[c]⟩) H
theorem ix_list : IxR X (rIxL X.K) := by
  intro value slice pins s σ H x y v u Q I rx ry h hs
  obtain ⟨p, xs, i, z, rfl, rfl, hq, he, q⟩ := h
  cases rx
  obtain ⟨t, rfl⟩ := ry
  obtain ⟨its, r, pl, hz⟩ := I.list hq
  obtain ⟨j, h1, h2, h3, h4, h5⟩ := atI_get he
  obtain ⟨w, ew, rw'⟩ := r.get h2
  have hl := r.length
  have hn := line63
  have fin : EP X pins σ Q w s := ⟨z, H, I, rw', q⟩
  by_cases h0 : 0 ≤ i
  · have hj : i.toNat = j := by
      rw [seqIndex_of h0 h5] at h1
      exact Option.some.inj h1
    exact item_listR pl.isList h0 (by omega) (by rw [hj]; simpa using ew) fin hs
  · have hj : (i + (its.toArray.size : Int)).toNat = j := by
      rw [seqIndex_neg (by omega) h4] at h1
      rw [List.size_toArray, ← hl]
      exact Option.some.inj h1
    exact subscriptTail_builtinR (x := w) pl.isList.typeIs slot_list_getitem.lookup
      (wpAny_getItem_list_neg (Q := fun r s' => r = w ∧ EP X pins σ Q r s') pl.isList (by omega) (by rw [List.size_toArray] <;> omega) (by omega) (by rw [hj]; simpa using ew) ⟨rfl, fin⟩) hs
/-- list, tuple or str -/
def rIx (K : PySem.W.Frag) : R2 := fun x y H Q => rIxL K x y H Q ∨ rIxT K x y H Q ∨ rIxS x y H Q

/-! ### xs[i] = v, any sign -/
def rSetL : V → V → V → Hp → (Hp → Prop) → Prop := fun o i v H Q => ∃ p xs k j, o = .ref p ∧ i = .int k ∧ H p = some (.lst xs) ∧ ixN xs.length k = some j ∧ Q (upd H p (.lst (xs.set j v)))

/-! ### slices -/
theorem slice_bounds (lo hi : Option Int) (n : Nat) : (sliceBounds lo hi none n).1 = ((HT.sIx n 0 lo : Nat) : Int) ∧ (sliceBounds lo hi none n).2.1 = ((HT.sIx n n hi : Nat) : Int) ∧ (sliceBounds lo hi none n).2.2 = 1 := by
  refine ⟨?_, ?_, rfl⟩
  · cases lo with
    | none => simp [sliceBounds, HT.sIx]
    | some i =>
      simp only [sliceBounds, HT.sIx, Option.getD_none, show (1 : Int) > 0 by decide, if_true]
      by_cases h : i < 0
      · simp only [h, if_true] <;> omega
      · simp only [h, if_false] <;> omega
  · cases hi with
    | none => simp [sliceBounds, HT.sIx]
    | some i =>
      simp only [sliceBounds, HT.sIx, Option.getD_none, show (1 : Int) > 0 by decide, if_true]
      by_cases h : i < 0
      · simp only [h, if_true] <;> omega
      · simp only [h, if_false] <;> omega
theorem slicePick_cut (its : List Value) (lo hi : Option Int) : slicePick its.toArray lo hi none = ((its.drop (HT.sIx its.length 0 lo)).take (HT.sIx its.length its.length hi - HT.sIx its.length 0 lo)).toArray := by
  obtain ⟨h1, h2, h3⟩ := slice_bounds lo hi its.toArray.size
  unfold slicePick
  rw [h1, h2, h3]
  simp only [sliceRange_one, pick_run, List.size_toArray] <;> rfl
/-- xs[lo:hi] of a list: a new list -/
def rSlL (K : PySem.W.Frag) : V → Option Int → Option Int → Hp → VK → Prop := fun x lo hi H Q => ∃ a xs, x = .ref a ∧ SqL K H a xs ∧ ∀ p, H p = none → Q (.ref p) (upd H p (.lst (cutV xs lo hi)))
theorem sl_list : SlR X (rSlL X.K) := by
  intro pins s σ H x v vl vu lo hi sl Q I rx hs pl pu h
  obtain ⟨a, xs, rfl, hx, q⟩ := h
  cases rx
  obtain ⟨its, r, ht, hz⟩ := I.list hx
  have hlen := r.length
  refine ⟨"list", _, slot_list_getitem.lookup, ht.isList.typeIs, ?_⟩
  refine wpAny_getItem_list_slice ht.isList hs pl pu .none (by simp) ?_ (by rw [List.size_toArray] <;> omega)
  rw [slicePick_cut, ← hlen]
  refine ⟨.ref s.heap.objs.size, _, I.laid (t' := s.toks) (o := .lst (cutV xs lo hi)) (fun b ob q => Heap.get?_push_of_some _ q) (Nat.le_refl _) ?_, rfl, q _ (I.hok.fresh (Nat.le_refl _))⟩
  exact ⟨Nat.le_trans (cutV_length xs lo hi) hz, _, 0, (r.drop (HT.sIx xs.length 0 lo)).take (HT.sIx xs.length xs.length hi - HT.sIx xs.length 0 lo), Heap.get?_push_size _ rfl⟩

/-! ### in, not in: flat items -/
def flatV : V → Bool
  | .non => true
  | .bl _ => true
  | .int _ => true
  | .str _ => true
  | _ => false
/-- == of flat values -/
def eqV : V → V → Bool
  | .non, .non => true
  | .bl a, .bl b => a == b
  | .bl a, .int b => (if a then 1 else 0) == b
  | .int a, .bl b => a == (if b then 1 else 0)
  | .int a, .int b => a == b
  | .str a, .str b => a == b
  | _, _ => false
theorem eqAt_V {A : Around} {s : Shared} {y x : V} {u v : Value} (ry : RelV y u) (rx : RelV x v) (fy : flatV y = true) (fx : flatV x = true) : SeqAt.EqAt A s u v (eqV y x) := by
  cases y with
  | non =>
    cases ry
    cases x with
    | non => cases rx; exact SeqAt.EqAt.same _
    | bl b => cases rx; exact SeqAt.EqAt.none_bool b
    | int b => obtain ⟨t, rfl⟩ := rx; exact SeqAt.EqAt.none_int b t
    | str b => obtain ⟨t, rfl⟩ := rx; exact SeqAt.EqAt.none_str b t
    | _ => exact absurd (show false = true from fx) Bool.false_ne_true
  | bl a =>
    cases ry
    cases x with
    | non => cases rx; exact SeqAt.EqAt.bool_none a
    | bl b => cases rx; exact SeqAt.EqAt.bool_bool a b
    | int b => obtain ⟨t, rfl⟩ := rx; exact SeqAt.EqAt.bool_int a b t
    | str b => obtain ⟨t, rfl⟩ := rx; exact SeqAt.EqAt.bool_str a b t
    | _ => exact absurd (show false = true from fx) Bool.false_ne_true
  | int a =>
    obtain ⟨t', rfl⟩ := ry
    cases x with
    | non => cases rx; exact SeqAt.EqAt.int_none a t'
    | bl b => cases rx; exact SeqAt.EqAt.int_bool a t' b
    | int b => obtain ⟨t, rfl⟩ := rx; exact SeqAt.EqAt.int_int a t' b t
    | str b => obtain ⟨t, rfl⟩ := rx; exact SeqAt.EqAt.int_str a t' b t
    | _ => exact absurd (show false = true from fx) Bool.false_ne_true
  | str a =>
    obtain ⟨t', rfl⟩ := ry
    cases x with
    | non => cases rx; exact SeqAt.EqAt.str_none a t'
    | bl b => cases rx; exact SeqAt.EqAt.str_bool a t' b
    | int b => obtain ⟨t, rfl⟩ := rx; exact SeqAt.EqAt.str_int a t' b t
    | str b => obtain ⟨t, rfl⟩ := rx; exact SeqAt.EqAt.str_str a t' b t
    | _ => exact absurd (show false = true from fx) Bool.false_ne_true
  | _ => exact absurd (show false = true from fy) Bool.false_ne_true
/-- the items' answers, read off the values (a value's own answer does not lean on its token) -/
def eqU (x : V) (u : Value) : Bool := match u with
  | .none => eqV .non x
  | .bool b => eqV (.bl b) x
  | .int i _ => eqV (.int i) x
  | .str z _ => eqV (.str z) x
  | _ => false
theorem eqU_of {x y : V} {u : Value} (r : RelV y u) (f : flatV y = true) : eqU x u = eqV y x := by
  cases y with
  | non => cases r; rfl
  | bl b => cases r; rfl
  | int i => obtain ⟨t, rfl⟩ := r; rfl
  | str z => obtain ⟨t, rfl⟩ := r; rfl
  | _ => exact absurd (show false = true from f) Bool.false_ne_true
theorem any_eqU {x : V} : ∀ {xs : List V} {us : List Value}, Vals xs us → xs.all flatV = true → us.any (eqU x) = xs.any fun y => eqV y x
  | _, _, .nil, _ => rfl
  | y :: xs, u :: us, .cons r t, f => by
    rw [List.all_cons, Bool.and_eq_true] at f
    rw [List.any_cons, List.any_cons, eqU_of r f.1, any_eqU t f.2]
theorem mem_eqAt {A : Around} {s : Shared} {x : V} {v : Value} (rx : RelV x v) (fx : flatV x = true) : ∀ {xs : List V} {us : List Value}, Vals xs us → xs.all flatV = true → ∀ u ∈ us, SeqAt.EqAt A s u v (eqU x u)
  | _, _, .nil, _ => fun u hu => by cases hu
  | y :: xs, u :: us, .cons r t, f => fun u' hu => by
    rw [List.all_cons, Bool.and_eq_true] at f
    rcases List.mem_cons.mp hu with rfl | hu
    · rw [eqU_of r f.1]; exact eqAt_V r rx f.1 fx
    · exact mem_eqAt rx fx t f.2 u' hu
def inV (x : V) (xs : List V) : Bool := xs.any fun y => eqV y x
/-- x in a list or tuple of flat items -/
def rIn (K : PySem.W.Frag) (neg : Bool) : R2 := fun x y H Q => ∃ p xs, y = .ref p ∧ (SqL K H p xs ∨ SqT K H p xs) ∧ flatV x = true ∧ xs.all flatV = true ∧ Q (.bl (if neg then !inV x xs else inV x xs)) H
theorem op_notIn_seq : OpR X (compareOp .NotIn) (rIn X.K true) := by
  intro pins s σ H x y v u Q I rx ry h
  obtain ⟨p, xs, rfl, hq, fx, fs, q⟩ := h
  cases ry
  rcases hq with hq | hq
  · obtain ⟨its, r, pl, hz⟩ := I.list hq
    refine SeqAt.notIn_listAt (eqU x) pl.isList (fun w hw => mem_eqAt rx fx r fs w (by simpa using hw)) ⟨.bl _, H, I, rfl, ?_⟩
    rw [show its.toArray.any (eqU x) = its.any (eqU x) by simp, any_eqU r fs]
    exact q
  · obtain ⟨its, r, pl, hz⟩ := I.tuple hq
    refine SeqAt.notIn_tupleAt (eqU x) pl (fun w hw => mem_eqAt rx fx r fs w (by simpa using hw)) ⟨.bl _, H, I, rfl, ?_⟩
    rw [show its.toArray.any (eqU x) = its.any (eqU x) by simp, any_eqU r fs]
    exact q

/-! ### len, list(x), tuple(x) of any list or tuple that is read -/
theorem call_len_seq : CallR X (.builtin "len") (fun xs H Q => ∃ p ys, xs = [.ref p] ∧ (SqL X.K H p ys ∨ SqT X.K H p ys) ∧ Q (.int ys.length) H) := by
  intro pins s σ H xs us Q I r h
  obtain ⟨p, ys, rfl, hq, q⟩ := h
  obtain ⟨u, rfl, rx⟩ := vals1 r
  cases rx
  have hn := line63
  rcases hq with hq | hq
  · obtain ⟨its, r', pl, hz⟩ := I.list hq
    have hlen := r'.length
    exact Calls.call_len_list pl.isList (by simp only [List.size_toArray] <;> omega) ⟨.int ys.length, H, I.tok _, ⟨s.toks + 1, by rw [List.size_toArray, hlen]⟩, q⟩
  · obtain ⟨its, r', pl, hz⟩ := I.tuple hq
    have hlen := r'.length
    exact len_tuple pl (by simp only [List.size_toArray] <;> omega) ⟨.int ys.length, H, I.tok _, ⟨s.toks + 1, by rw [List.size_toArray, hlen]⟩, q⟩
theorem call_list_of : CallR X (.type "list") (fun xs H Q => ∃ p ys, xs = [.ref p] ∧ (SqL X.K H p ys ∨ SqT X.K H p ys) ∧ ∀ l, H l = none → Q (.ref l) (upd H l (.lst ys))) := by
  intro pins s σ H xs us Q I r h
  obtain ⟨p, ys, rfl, hq, q⟩ := h
  obtain ⟨u, rfl, rx⟩ := vals1 r
  cases rx
  have fin : ∀ (its : List Value), Vals ys its → ys.length ≤ sizeLine → ∀ (h' : Heap) (c' : Nat), (∀ b o', s.heap.get? b = some o' → h'.get? b = some o') →
      h'.get? s.heap.objs.size = some { cls := .type "list", dict := none, data := .seq its.toArray c', slots := #[] } → EP X pins σ Q (.ref s.heap.objs.size) { s with heap := h' } := fun its r' hz h' c' kp e =>
    ⟨.ref s.heap.objs.size, _, I.laid (t' := s.toks) kp (Nat.le_refl _) (show ObjOk X.prog X.w _ h' _ (.lst ys) from ⟨hz, its, c', r', e⟩), rfl, q _ (I.hok.fresh (Nat.le_refl _))⟩
  rcases hq with hq | hq
  · obtain ⟨its, r', pl, hz⟩ := I.list hq
    have hlen := r'.length
    obtain ⟨o, ho, hc, n, hd⟩ := pl.isList
    exact call_list_seq p (.inl rfl) ho hc hd (fun h' c' kp e => fin its r' hz h' c' kp e) (by simp only [List.size_toArray] <;> omega)
  · obtain ⟨its, r', pl, hz⟩ := I.tuple hq
    have hlen := r'.length
    obtain ⟨o, ho, hc, n, hd⟩ := pl
    exact call_list_seq p (.inr rfl) ho hc hd (fun h' c' kp e => fin its r' hz h' c' kp e) (by simp only [List.size_toArray] <;> omega)

/-! ### the call of a builtin's method: o.m(..) -/
/-- the value is of that builtin type -/
def tyV (K : PySem.W.Frag) (T : String) (x : V) (H : Hp) : Prop := match x with
  | .str _ => T = "str"
  | .int _ => T = "int"
  | .ref p => (T = "list" ∧ ∃ xs, SqL K H p xs) ∨ (T = "tuple" ∧ ∃ o, K.lookup p = some o ∧ o.cls = .type "tuple" ∧ o.dict = none) ∨
      (T = "dict" ∧ ((∃ kvs, H p = some (.dK kvs)) ∨ ∃ kvs, H p = some (.dT kvs))) ∨ (T = "set" ∧ ∃ S n, H p = some (.set S n))
  | _ => False
theorem tyV_is {pins : List (Addr × Obj)} {σ : St} {H : Hp} {s : Shared} {T : String} {x : V} {v : Value} (I : Inv X pins σ H s) (r : RelV x v) (ty : tyV X.K T x H) :
    s.TypeIs v T ∧ ∀ a, v = .ref a → ∃ ob, s.heap.get? a = some ob ∧ ob.dict = none := by
  cases x with
  | str z =>
    obtain ⟨t, rfl⟩ := r
    cases (show T = "str" from ty)
    exact ⟨typeIs_str s z t, fun _ e => nomatch e⟩
  | int i =>
    obtain ⟨t, rfl⟩ := r
    cases (show T = "int" from ty)
    exact ⟨typeIs_int s i t, fun _ e => nomatch e⟩
  | ref p =>
    cases r
    rcases ty with ⟨rfl, xs, hq⟩ | ⟨rfl, o, hk, hc, hd⟩ | ⟨rfl, hk⟩ | ⟨rfl, S, n, hk⟩
    · obtain ⟨its, _, pl, _⟩ := I.list hq
      refine ⟨pl.isList.typeIs, fun a e => ?_⟩
      cases e
      obtain ⟨o, n, e, c, hd, _⟩ := pl
      exact ⟨o, e, hd⟩
    · refine ⟨⟨o, I.kIn p o hk, hc⟩, fun a e => ?_⟩
      cases e
      exact ⟨o, I.kIn _ o hk, hd⟩
    · have z : ∃ o, s.heap.get? p = some o ∧ o.ExactDict := by
        rcases hk with ⟨kvs, hk⟩ | ⟨kvs, hk⟩
        · obtain ⟨_, _, _, _, o, _, _, e, ex, _⟩ := I.hok p _ hk
          exact ⟨o, e, ex⟩
        · obtain ⟨_, _, _, _, o, _, _, e, ex, _⟩ := I.hok p _ hk
          exact ⟨o, e, ex⟩
      obtain ⟨o, e, ex⟩ := z
      refine ⟨⟨o, e, ex.1⟩, fun a e2 => ?_⟩
      cases e2
      exact ⟨o, e, ex.2.1⟩
    · obtain ⟨o, _, _, _, e, ex, _⟩ := I.hok p _ hk
      refine ⟨⟨o, e, ex.1⟩, fun a e2 => ?_⟩
      cases e2
      exact ⟨o, e, ex.2.1⟩
  | _ => exact False.elim ty
def tBM0 (K : PySem.W.Frag) (T : String) (r : V → List V → Hp → VK → Prop) (to : TE) : TE := fun σ H Q => to σ H fun x H1 => tyV K T x H1 ∧ r x [] H1 Q
def tBM (K : PySem.W.Frag) (T : String) (r : V → List V → Hp → VK → Prop) (to : TE) (t : TA) : TE := fun σ H Q => to σ H fun x H1 => tyV K T x H1 ∧ t σ H1 fun xs H2 => r x xs H2 Q
variable {o e : Expr} {es : List Expr} {to : TE} {t : TA} {name : Str} {apos cpos : Pos} {T id : String} {r : V → List V → Hp → VK → Prop}
theorem pe_bm (pa : PlainAttrs T) (slot : Slot T name id) (hty : typeOf (.builtin id) = pure (.type "method_descriptor")) (hm : MtR X id r) (ho : PE X o to) (ha : PA X (e :: es) t)
    (hbase : attributeBase o name X.env (eval o X.env) = eval o X.env := by rfl)
    (hfew : ((backTo cpos (starEach (e :: es) X.env)).all (fun x => !x.1) && (backToKw cpos (keywordEach [] X.env)).all (fun x => x.1.isSome)
      && decide ((e :: es).length + ([] : List Keyword).length + (if ([] : List Keyword).isEmpty then 0 else 1) < 30)) = true := by rfl)
    (hline : (apos.endLine == cpos.line) = true := by rfl) (hs : starEach (e :: es) X.env = (false, eval e X.env) :: starEach es X.env := by rfl) (hplain : (backTo cpos (starEach es X.env)).any (·.1) = false := by rfl) :
    PE X (.Call (.Attribute o name apos) (e :: es) [] cpos) (tBM X.K T r to t) := by
  intro pins s σ H Q I h
  refine wpAny_Call_method_late hbase hfew hline rfl (thn (ho pins s σ H _ I h) fun v s1 ⟨x, H1, I1, r1, ty, q1⟩ => ?_)
  obtain ⟨h1, h2⟩ := tyV_is I1 r1 ty
  refine ⟨T, id, pa, slot, hty, h1, h2, ?_⟩
  have hA := ha cpos pins s1 σ H1 _ I1 q1
  rw [hs] at hA ⊢
  refine Calls.callWith_builtin (by show (false || (backTo cpos (starEach es X.env)).any (·.1)) = false; rw [hplain] <;> rfl) (Calls.evalArgs_plain ?_)
  exact thn hA fun us s2 ⟨vs, H2, I2, r2, q2⟩ => hm pins s2 σ H2 x vs v us Q I2 r1 r2 q2
/- xs.append(e), list.index on a module's tuple .. are MtR facts of 06m -/
end
end L2

namespace L2
open PySem PySem.Spec PyProof.Rows

def MtM (X : Cx) (id : String) (r : V → List V → Hp → VK → Prop) : Prop :=
  ∀ (pins : List (Addr × Obj)) (s : Shared) (σ : St) (H : Hp) (x : V) (xs : List V) (v : Value) (us : List Value) (Q : VK), Inv X pins σ H s → RelV x v → Vals xs us → r x xs H Q →
    wpAny (model X.prog X.w) X.A (call (.builtin id) (v :: us)) (EP X pins σ Q) X.xe s

/-! ### lists of values -/
theorem Vals.one : ∀ {x : V} {us : List Value}, Vals [x] us → ∃ u, us = [u] ∧ RelV x u
  | _, _, .cons r .nil => ⟨_, rfl, r⟩

section
variable {X : Cx} {pins : List (Addr × Obj)} {σ : St} {H : Hp} {s : Shared} {l b : Addr} {xs ys zs : List V}

/-! ### the two steps: a tracked list is rewritten, a new list is laid -/
theorem Inv.lset {its its' : List Value} {n : Nat} {f : Array Value → Array Value} {t' : Nat} (I : Inv X pins σ H s) (hH : H l = some (.lst xs))
    (e : s.heap.get? l = some { cls := .type "list", data := .seq its.toArray n }) (hf : f its.toArray = its'.toArray) (hv : Vals ys its') (hz : ys.length ≤ sizeLine) :
    Inv X pins σ (upd H l (.lst ys)) { s with heap := s.heap.update l (Obj.mapSeq f), toks := t' } := by
  have q := PySem.IsL.update e f
  rw [hf] at q
  refine I.write (x := l) (e := l) (by rw [hH]; exact trivial) (.inl rfl) (fun b' u hb hu => (Heap.get?_update_other s.heap (Obj.mapSeq f) (Ne.symm hb)).trans hu) ⟨_, q⟩ ?_
  exact ⟨hz, its', _, hv, q⟩
theorem Inv.lstM (I : Inv X pins σ H s) (hH : H l = some (.lst xs)) : xs.length ≤ sizeLine ∧ ∃ (its : List Value) (n : Nat), Vals xs its ∧ xs.length = its.length ∧ s.heap.get? l = some { cls := .type "list", data := .seq its.toArray n } := by
  obtain ⟨z, its, n, r, e⟩ := I.hok l _ hH
  exact ⟨z, its, n, r, r.length, e⟩

end

section
variable {X : Cx}

/-! ### methods -/
def rAppend : V → List V → Hp → VK → Prop := fun x vs H Q => ∃ l xs y, x = .ref l ∧ vs = [y] ∧ H l = some (.lst xs) ∧ xs.length < sizeLine ∧ Q .non (upd H l (.lst (xs ++ [y])))
theorem mt_append : MtM X "list.append" rAppend := by
  intro pins s σ H x vs v us Q I rx rv h
  obtain ⟨l, xs, y, rfl, rfl, hH, hz, q⟩ := h
  cases rx
  obtain ⟨u, rfl, ru⟩ := rv.one
  obtain ⟨z, its, n, r, hl, e⟩ := I.lstM hH
  refine call_meets F.slot_list_append ⟨_, e, rfl⟩ F.entry_list_append (F.args_list_append_2 _ _) (PySem.list_append l its.toArray n u (by rw [List.size_toArray]; omega)) ⟨e, ?_⟩
  refine ⟨.non, _, I.lset (its' := its ++ [u]) hH e (by simp) (r.append (.cons ru .nil)) ?_, rfl, q⟩
  rw [List.length_append, List.length_singleton]
  omega

def rExtend : V → List V → Hp → VK → Prop := fun x vs H Q => ∃ l b xs zs, x = .ref l ∧ vs = [.ref b] ∧ H l = some (.lst xs) ∧ H b = some (.lst zs) ∧ xs.length + zs.length ≤ sizeLine ∧ Q .non (upd H l (.lst (xs ++ zs)))

def rPop : V → List V → Hp → VK → Prop := fun x vs H Q => ∃ l xs y, x = .ref l ∧ vs = [] ∧ H l = some (.lst xs) ∧ xs[xs.length - 1]? = some y ∧ Q y (upd H l (.lst xs.dropLast))

def rPopAt : V → List V → Hp → VK → Prop := fun x vs H Q => ∃ l xs i k y, x = .ref l ∧ vs = [.int i] ∧ H l = some (.lst xs) ∧ -(2 ^ 63) ≤ i ∧ i < 2 ^ 63 ∧ seqIndex? i xs.length = some k ∧ xs[k]? = some y ∧ Q y (upd H l (.lst (xs.eraseIdx k)))

def rReverse : V → List V → Hp → VK → Prop := fun x vs H Q => ∃ l xs, x = .ref l ∧ vs = [] ∧ H l = some (.lst xs) ∧ Q .non (upd H l (.lst xs.reverse))

def rClear : V → List V → Hp → VK → Prop := fun x vs H Q => ∃ l xs, x = .ref l ∧ vs = [] ∧ H l = some (.lst xs) ∧ Q .non (upd H l (.lst []))

/-! ### list + list, list += list, list * int -/
def rCat : R2 := fun x y H Q => ∃ l b xs zs, x = .ref l ∧ y = .ref b ∧ H l = some (.lst xs) ∧ H b = some (.lst zs) ∧ xs.length + zs.length ≤ sizeLine ∧ ∀ p, H p = none → Q (.ref p) (upd H p (.lst (xs ++ zs)))
/-- a list times an int (a negative one is nothing) -/
def rRep : R2 := fun x y H Q => ∃ l k xs, x = .ref l ∧ y = .int k ∧ H l = some (.lst xs) ∧ -(2 ^ 63) ≤ k ∧ k < 2 ^ 63 ∧ xs.length * k.toNat ≤ sizeLine ∧
  ∀ p, H p = none → Q (.ref p) (upd H p (.lst (List.replicate k.toNat xs).flatten))

/-! ### del xs[i] -/
end

/-! ### xs[a:b] = ys -/
section
variable {prog : Program} {w : World} {A : Around} {E : Value → Shared → Prop} {s : Shared}
end

section
variable {X : Cx}
end
end L2

namespace L2
open PySem PySem.Spec PyProof.Rows

/-! ### lists of pairs as tables -/
section
variable {κ : Type} [DecidableEq κ]
def valV (kvs : List (κ × V)) (k : κ) : Option V := (kvs.find? fun kv => decide (kv.1 = k)).map (·.2)
/-- in its place, or at the end -/
def putK (kvs : List (κ × V)) (k : κ) (v : V) : List (κ × V) :=
  if (kvs.any fun kv => decide (kv.1 = k)) = true then kvs.map (fun kv => if kv.1 = k then (kv.1, v) else kv) else kvs ++ [(k, v)]
def dropK (kvs : List (κ × V)) (k : κ) : List (κ × V) := kvs.filter fun kv => decide (kv.1 ≠ k)

theorem valV_nil {k : κ} : valV ([] : List (κ × V)) k = none := rfl
theorem valV_pos {p : κ × V} {r : List (κ × V)} {k : κ} (e : p.1 = k) : valV (p :: r) k = some p.2 := by simp [valV, List.find?_cons, e]
theorem valV_neg {p : κ × V} {r : List (κ × V)} {k : κ} (e : ¬ p.1 = k) : valV (p :: r) k = valV r k := by simp [valV, List.find?_cons, e]
theorem valV_any (k : κ) : ∀ kvs : List (κ × V), (kvs.any fun kv => decide (kv.1 = k)) = (valV kvs k).isSome
  | [] => rfl
  | p :: r => by
    rw [List.any_cons]
    by_cases e : p.1 = k
    · simp only [valV_pos e, decide_eq_true e, Bool.true_or, Option.isSome_some]
    · rw [valV_neg e, decide_eq_false e, Bool.false_or]; exact valV_any k r
theorem valV_map (k j : κ) (y : V) : ∀ kvs : List (κ × V), valV (kvs.map fun kv => if kv.1 = k then (kv.1, y) else kv) j = (valV kvs j).map fun x => if j = k then y else x
  | [] => rfl
  | p :: r => by
    have ih := valV_map k j y r
    rw [List.map_cons]
    by_cases h : p.1 = k
    · rw [if_pos h]
      by_cases e : p.1 = j
      · rw [valV_pos (p := (p.1, y)) e, valV_pos e, Option.map_some, if_pos (e.symm.trans h)]
      · rw [valV_neg (p := (p.1, y)) e, valV_neg e, ih]
    · rw [if_neg h]
      by_cases e : p.1 = j
      · rw [valV_pos (p := p) e, valV_pos e, Option.map_some, if_neg (fun z => h (e.trans z))]
      · rw [valV_neg (p := p) e, valV_neg e, ih]
theorem valV_snoc (k j : κ) (y : V) : ∀ kvs : List (κ × V), valV kvs k = none → valV (kvs ++ [(k, y)]) j = if j = k then some y else valV kvs j
  | [], _ => by
    by_cases e : k = j
    · rw [if_pos e.symm]; exact valV_pos (p := (k, y)) e
    · rw [if_neg (fun z => e z.symm)]; exact valV_neg (p := (k, y)) e
  | p :: r, hn => by
    rw [List.cons_append]
    have hk : ¬ p.1 = k := fun z => by rw [valV_pos z] at hn; cases hn
    rw [valV_neg hk] at hn
    have ih := valV_snoc k j y r hn
    by_cases e : p.1 = j
    · rw [valV_pos e, valV_pos e, if_neg (fun z => hk (e.trans z))]
    · rw [valV_neg e, valV_neg e, ih]
theorem valV_put (kvs : List (κ × V)) (k j : κ) (y : V) : valV (putK kvs k y) j = if j = k then some y else valV kvs j := by
  unfold putK
  by_cases a : (kvs.any fun kv => decide (kv.1 = k)) = true
  · rw [if_pos a, valV_map]
    rw [valV_any] at a
    by_cases e : j = k
    · obtain ⟨x, hx⟩ := Option.isSome_iff_exists.mp a
      rw [if_pos e, e, hx, Option.map_some, if_pos rfl]
    · rw [if_neg e]
      cases valV kvs j with
      | none => rfl
      | some x => rw [Option.map_some, if_neg e]
  · rw [if_neg a]
    refine valV_snoc k j y kvs ?_
    rw [valV_any] at a
    cases q : valV kvs k with
    | none => rfl
    | some x => rw [q] at a; exact (a rfl).elim
theorem length_putK (kvs : List (κ × V)) (k : κ) (v : V) : (putK kvs k v).length ≤ kvs.length + 1 := by
  unfold putK
  split
  · rw [List.length_map]; omega
  · rw [List.length_append, List.length_cons, List.length_nil]; omega
theorem putK_new {kvs : List (κ × V)} {k : κ} (v : V) (h : valV kvs k = none) : putK kvs k v = kvs ++ [(k, v)] := by
  unfold putK
  rw [valV_any, h]
  exact if_neg (by decide)

theorem RelO.isSome_eq {o : Option V} {u : Option Value} (r : RelO o u) : o.isSome = u.isSome := by
  cases o with
  | none => cases u with
    | none => rfl
    | some _ => exact (show False from r).elim
  | some _ => cases u with
    | none => exact (show False from r).elim
    | some _ => rfl
theorem RelO.getD {o : Option V} {u : Option Value} {d : V} {d' : Value} (r : RelO o u) (rd : RelV d d') : RelV (o.getD d) (u.getD d') := by
  cases o with
  | none => cases u with
    | none => exact rd
    | some _ => exact (show False from r).elim
  | some _ => cases u with
    | none => exact (show False from r).elim
    | some _ => exact r

/-- raw tables of the same keys -/
theorem KV.val {kvs : List (κ × V)} {vs : List (κ × Value)} (r : KV kvs vs) (k : κ) : RelO (valV kvs k) (valueAt vs k) := by
  unfold KV at r
  induction r with
  | nil => exact True.intro
  | @cons p q ps qs h t ih =>
    obtain ⟨h1, h2⟩ := h
    by_cases e : p.1 = k
    · have e' : q.1 = k := h1.symm.trans e
      have b : valueAt (q :: qs) k = some q.2 := by simp [valueAt, List.find?_cons, e']
      rw [valV_pos e, b]; exact h2
    · have e' : ¬ q.1 = k := fun z => e (h1.trans z)
      have b : valueAt (q :: qs) k = valueAt qs k := by simp [valueAt, List.find?_cons, e']
      rw [valV_neg e, b]; exact ih
theorem KV.any {kvs : List (κ × V)} {vs : List (κ × Value)} (r : KV kvs vs) (k : κ) : (kvs.any fun kv => decide (kv.1 = k)) = vs.any fun kv => decide (kv.1 = k) := by
  unfold KV at r
  induction r with
  | nil => rfl
  | cons h t ih => rw [List.any_cons, List.any_cons, ih, h.1]
theorem KV.repl {kvs : List (κ × V)} {vs : List (κ × Value)} (r : KV kvs vs) (k : κ) {y : V} {u : Value} (ry : RelV y u) :
    KV (kvs.map fun kv => if kv.1 = k then (kv.1, y) else kv) (vs.map fun kv => if kv.1 = k then (kv.1, u) else kv) := by
  unfold KV at r ⊢
  induction r with
  | nil => exact .nil
  | @cons p q ps qs h t ih =>
    rw [List.map_cons, List.map_cons]
    refine .cons ?_ ih
    obtain ⟨h1, h2⟩ := h
    by_cases e : p.1 = k
    · rw [if_pos e, if_pos (h1.symm.trans e)]; exact ⟨h1, ry⟩
    · rw [if_neg e, if_neg (fun z => e (h1.trans z))]; exact ⟨h1, h2⟩
theorem KV.put {kvs : List (κ × V)} {vs : List (κ × Value)} (r : KV kvs vs) (k : κ) {y : V} {u : Value} (ry : RelV y u) : KV (putK kvs k y) (stored vs k u) := by
  unfold putK stored
  rw [r.any k]
  by_cases e : (vs.any fun kv => decide (kv.1 = k)) = true
  · rw [if_pos e, if_pos e]; exact r.repl k ry
  · rw [if_neg e, if_neg e]; exact Paired.snoc r ⟨rfl, ry⟩
theorem KV.length {kvs : List (κ × V)} {vs : List (κ × Value)} (r : KV kvs vs) : kvs.length = vs.length := Paired.length r
end


/-! ### a tracked dict, its keys ints and texts or tuples of these -/
theorem kV_is {P : Program} {w : World} {k : Key} {u : Value} (r : RelV (kV k) u) : (mixKind P w).is k u = true := by
  cases k with
  | inl i => obtain ⟨t, e⟩ := (show ∃ t, u = Value.int i t from r); subst e; exact mixKind_int P w i t
  | inr x => obtain ⟨t, e⟩ := (show ∃ t, u = Value.str x t from r); subst e; exact mixKind_str P w x t
theorem kV_inj {a b : Key} (e : kV a = kV b) : a = b := by
  cases a with
  | inl i => cases b with
    | inl j => have e' : V.int i = V.int j := e; injection e' with e'; rw [e']
    | inr y => exact nomatch (show V.int i = V.str y from e)
  | inr x => cases b with
    | inl j => exact nomatch (show V.str x = V.int j from e)
    | inr y => have e' : V.str x = V.str y := e; injection e' with e'; rw [e']
theorem items_are {P : Program} {w : World} : ∀ {ks : List Key} {us : List Value}, Vals (ks.map kV) us → ItemsAre (mixKind P w) ks us
  | [], _, r => by rw [List.map_nil] at r; cases r; exact .nil
  | k :: ks, _, r => by
    rw [List.map_cons] at r
    cases r with
    | cons h t => exact .cons (kV_is h) (items_are t)

/-- raw entries of a dict with tuple keys -/
abbrev KT (H : Hp) : List (List Key × V) → List (List Key × Addr × Value) → Prop := Paired fun p q => p.1 = q.1 ∧ H q.2.1 = some (.tup (p.1.map kV)) ∧ RelV p.2 q.2.2
theorem KT.val {H : Hp} {kvs : List (List Key × V)} {xs : List (List Key × Addr × Value)} (r : KT H kvs xs) (k : List Key) : RelO (valV kvs k) ((atKey xs k).map (·.2)) := by
  induction r with
  | nil => exact True.intro
  | @cons p q ps qs h t ih =>
    obtain ⟨h1, _, h2⟩ := h
    by_cases e : p.1 = k
    · have e' : q.1 = k := h1.symm.trans e
      have b : atKey (q :: qs) k = some q.2 := by simp [atKey, List.find?_cons, e']
      rw [valV_pos e, b]; exact h2
    · have e' : ¬ q.1 = k := fun z => e (h1.trans z)
      have b : atKey (q :: qs) k = atKey qs k := by simp [atKey, List.find?_cons, e']
      rw [valV_neg e, b]; exact ih
theorem KT.repl {H : Hp} {kvs : List (List Key × V)} {xs : List (List Key × Addr × Value)} (r : KT H kvs xs) (k : List Key) {y : V} {u : Value} (ry : RelV y u) :
    KT H (kvs.map fun kv => if kv.1 = k then (kv.1, y) else kv) (xs.map (putAt k u)) := by
  induction r with
  | nil => exact .nil
  | @cons p q ps qs h t ih =>
    rw [List.map_cons, List.map_cons]
    refine .cons ?_ ih
    obtain ⟨h1, h2, h3⟩ := h
    unfold putAt
    by_cases e : p.1 = k
    · rw [if_pos e, if_pos (h1.symm.trans e)]; exact ⟨h1, h2, ry⟩
    · rw [if_neg e, if_neg (fun z => e (h1.trans z))]; exact ⟨h1, h2, h3⟩
theorem KT.put {H : Hp} {kvs : List (List Key × V)} {xs : List (List Key × Addr × Value)} (r : KT H kvs xs) (k : List Key) {b : Addr} {y : V} {u : Value} (hb : H b = some (.tup (k.map kV))) (ry : RelV y u) :
    KT H (putK kvs k y) (storedH xs k b u) := by
  have e : (kvs.any fun kv => decide (kv.1 = k)) = (atKey xs k).isSome := by
    rw [valV_any, (r.val k).isSome_eq, Option.isSome_map]
  unfold putK storedH
  rw [e]
  by_cases q : (atKey xs k).isSome = true
  · rw [if_pos q, if_pos q]; exact r.repl k ry
  · rw [if_neg q, if_neg q]; exact Paired.snoc r ⟨rfl, hb, ry⟩
theorem KT.keeps {H H' : Hp} {kvs : List (List Key × V)} {xs : List (List Key × Addr × Value)} (r : KT H kvs xs) (ht : ∀ b ys, H b = some (.tup ys) → H' b = some (.tup ys)) : KT H' kvs xs :=
  Paired.mapP r fun _ _ z => ⟨z.1, ht _ _ z.2.1, z.2.2⟩

section
variable {P : Program} {w : World} {H : Hp} {h : Heap} {a : Addr}
theorem rd_of {u : HO} (ok : HOk P w H h) (e : Rd H a u) : ObjOk P w H h a u := e.ok ok
theorem dk_rd {kvs : List (Key × V)} (ok : HOk P w H h) (e : Rd H a (.dK kvs)) : kvs.length ≤ sizeLine ∧ (a == sysModules) = false ∧ ∃ vs, KV kvs vs ∧ h.DictOf (mixKind P w) a vs :=
  show ObjOk P w H h a (.dK kvs) from rd_of ok e
theorem dk_of {kvs : List (Key × V)} (ok : HOk P w H h) (e : H a = some (.dK kvs)) : kvs.length ≤ sizeLine ∧ (a == sysModules) = false ∧ ∃ vs, KV kvs vs ∧ h.DictOf (mixKind P w) a vs := dk_rd ok (.inl e)
/-- a tracked tuple of ints and texts is a key -/
theorem key_of {ks : List Key} (ok : HOk P w H h) (e : H a = some (.tup (ks.map kV))) : (tupleKind (mixKind P w)).is h ks a := by
  obtain ⟨_, its, r, o, h1, h2, n, h3⟩ := (show ObjOk P w H h a (.tup (ks.map kV)) from ok a _ e)
  exact ⟨o, its.toArray, n, h1, h2, h3, by simpa using items_are r⟩
theorem dt_rd {kvs : List (List Key × V)} (ok : HOk P w H h) (e : Rd H a (.dT kvs)) : kvs.length ≤ sizeLine ∧ (a == sysModules) = false ∧
    ∃ xs, KT H kvs xs ∧ h.DictOfH (tupleKind (mixKind P w)) a xs := by
  obtain ⟨z, y, xs, r, o, es, ep, h1, h2, h3, h4, h5⟩ := (show ObjOk P w H h a (.dT kvs) from rd_of ok e)
  refine ⟨z, y, xs, r, o, es, ep, h1, h2, h3, h4, fun x hx => ?_, h5⟩
  have all : ∀ {l : List (List Key × V)} {m : List (List Key × Addr × Value)}, KT H l m → ∀ x ∈ m, (tupleKind (mixKind P w)).is h x.1 x.2.1 := by
    intro l m q
    induction q with
    | nil => intro x hx; exact nomatch hx
    | @cons p q ps qs hq t ih =>
      intro x hx
      rcases List.mem_cons.mp hx with e | hx
      · subst e
        exact key_of ok (by rw [← hq.1]; exact hq.2.1)
      · exact ih x hx
  exact all r x hx
theorem dt_of {kvs : List (List Key × V)} (ok : HOk P w H h) (e : H a = some (.dT kvs)) : kvs.length ≤ sizeLine ∧ (a == sysModules) = false ∧
    ∃ xs, KT H kvs xs ∧ h.DictOfH (tupleKind (mixKind P w)) a xs := dt_rd ok (.inl e)
end

/-- what the dict at a holds at the key y -/
def DGet (H : Hp) (a : Addr) (y : V) (r : Option V) : Prop :=
  (∃ kvs k, Rd H a (.dK kvs) ∧ y = kV k ∧ r = valV kvs k) ∨ ∃ kvs k b, Rd H a (.dT kvs) ∧ y = .ref b ∧ H b = some (.tup (k.map kV)) ∧ r = valV kvs k
/-- the heap behind a[y] = v -/
def DPut (H : Hp) (a : Addr) (y v : V) (H' : Hp) : Prop :=
  (∃ kvs k, H a = some (.dK kvs) ∧ y = kV k ∧ kvs.length < sizeLine ∧ H' = upd H a (.dK (putK kvs k v))) ∨
  ∃ kvs k b, H a = some (.dT kvs) ∧ y = .ref b ∧ H b = some (.tup (k.map kV)) ∧ kvs.length < sizeLine ∧ H' = upd H a (.dT (putK kvs k v))
theorem DGet.k {H : Hp} {a : Addr} {kvs : List (Key × V)} {k : Key} (e : H a = some (.dK kvs)) : DGet H a (kV k) (valV kvs k) := .inl ⟨kvs, k, .inl e, rfl, rfl⟩
theorem DGet.t {H : Hp} {a b : Addr} {kvs : List (List Key × V)} {k : List Key} (e : H a = some (.dT kvs)) (eb : H b = some (.tup (k.map kV))) : DGet H a (.ref b) (valV kvs k) := .inr ⟨kvs, k, b, .inl e, rfl, eb, rfl⟩
theorem DPut.k {H : Hp} {a : Addr} {kvs : List (Key × V)} {k : Key} {v : V} (e : H a = some (.dK kvs)) (hl : kvs.length < sizeLine) : DPut H a (kV k) v (upd H a (.dK (putK kvs k v))) := .inl ⟨kvs, k, e, rfl, hl, rfl⟩
theorem DPut.t {H : Hp} {a b : Addr} {kvs : List (List Key × V)} {k : List Key} {v : V} (e : H a = some (.dT kvs)) (eb : H b = some (.tup (k.map kV))) (hl : kvs.length < sizeLine) :
    DPut H a (.ref b) v (upd H a (.dT (putK kvs k v))) := .inr ⟨kvs, k, b, e, rfl, eb, hl, rfl⟩


section
variable {X : Cx} {pins : List (Addr × Obj)} {σ : St} {H : Hp} {s : Shared} {a : Addr} {y v : V} {u r : Value} {o : Option V} {A : Around} {E : Value → Shared → Prop}

theorem Inv.big (I : Inv X pins σ H s) : sysModules < s.heap.objs.size := by
  have h : mainGlobals < s.heap.objs.size := (I.mod.glob.keeps I.bk).lt
  exact Nat.lt_trans (by decide) h

/-- d[y], there -/
theorem d_getItem {Q : Value → Shared → Prop} (hu : A.units + 1 < cLine) (I : Inv X pins σ H s) (g : DGet H a y (some v)) (ry : RelV y u) (h : ∀ w' s', Inv X pins σ H s' → RelV v w' → Q w' s') :
    wpAny (model X.prog X.w) A (getItem (.ref a) u) Q E s := by
  rcases g with ⟨kvs, k, e, ey, l⟩ | ⟨kvs, k, b, e, ey, eb, l⟩
  · subst ey
    obtain ⟨z, hd, vs, rel, dd⟩ := dk_rd I.hok e
    obtain ⟨w', hw, rw'⟩ := RelO.some_of (v := v) (o := valueAt vs k) (by rw [l]; exact rel.val k)
    exact wpAny_getItem_of (kV_is ry) dd.mapOf hw (h w' _ (I.tok _) rw')
  · subst ey
    cases (show u = Value.ref b from ry)
    obtain ⟨z, hd, xs, rel, dd⟩ := dt_rd I.hok e
    obtain ⟨w', hw, rw'⟩ := RelO.some_of (v := v) (o := (atKey xs k).map (·.2)) (by rw [l]; exact rel.val k)
    obtain ⟨p, hp, hp2⟩ := Option.map_eq_some_iff.mp hw
    refine wpAny_getItem_heap (tupleKind_room_in1 hu) (key_of I.hok eb) dd hp ?_
    rw [hp2]
    exact h w' _ (I.tok _) rw'
/-- y in d -/
theorem d_in {Q : Value → Shared → Prop} (hu : A.units + 1 < cLine) (I : Inv X pins σ H s) (g : DGet H a y o) (ry : RelV y u) (h : ∀ s', Inv X pins σ H s' → Q (.bool o.isSome) s') :
    wpAny (model X.prog X.w) A (compareOp .In u (.ref a)) Q E s := by
  rcases g with ⟨kvs, k, e, ey, l⟩ | ⟨kvs, k, b, e, ey, eb, l⟩
  · subst ey
    obtain ⟨z, hd, vs, rel, dd⟩ := dk_rd I.hok e
    refine wpAny_in_of (kV_is ry) hd dd.mapOf ?_
    rw [← (rel.val k).isSome_eq, ← l]
    exact h _ (I.tok _)
  · subst ey
    cases (show u = Value.ref b from ry)
    obtain ⟨z, hd, xs, rel, dd⟩ := dt_rd I.hok e
    refine wpAny_in_heap (tupleKind_room_in1 hu) (key_of I.hok eb) hd dd ?_
    have q := (rel.val k).isSome_eq
    rw [Option.isSome_map] at q
    rw [← q, ← l]
    exact h _ (I.tok _)
theorem d_notIn {Q : Value → Shared → Prop} (hu : A.units + 1 < cLine) (I : Inv X pins σ H s) (g : DGet H a y o) (ry : RelV y u) (h : ∀ s', Inv X pins σ H s' → Q (.bool (!o.isSome)) s') :
    wpAny (model X.prog X.w) A (compareOp .NotIn u (.ref a)) Q E s := by
  rcases g with ⟨kvs, k, e, ey, l⟩ | ⟨kvs, k, b, e, ey, eb, l⟩
  · subst ey
    obtain ⟨z, hd, vs, rel, dd⟩ := dk_rd I.hok e
    refine wpAny_notIn_of (kV_is ry) hd dd.mapOf ?_
    rw [← (rel.val k).isSome_eq, ← l]
    exact h _ (I.tok _)
  · subst ey
    cases (show u = Value.ref b from ry)
    obtain ⟨z, hd, xs, rel, dd⟩ := dt_rd I.hok e
    refine wpAny_notIn_heap (tupleKind_room_in1 hu) (key_of I.hok eb) hd dd ?_
    have q := (rel.val k).isSome_eq
    rw [Option.isSome_map] at q
    rw [← q, ← l]
    exact h _ (I.tok _)
/-- a dict's object is replaced -/
theorem d_write {h' : Heap} {t' : Nat} {ob : HO} (I : Inv X pins σ H s) (mu : Mut (H a)) (hs : Heap.SameBut a s.heap h') (he : ∃ q, h'.get? a = some q) (new : ObjOk X.prog X.w (upd H a ob) h' a ob) :
    Inv X pins σ (upd H a ob) { s with heap := h', toks := t' } :=
  I.write (x := a) (e := a) mu (.inl rfl) (fun b q hb z => (hs.2 b hb).trans z) he new
theorem dk_new {P : Program} {w : World} {H' : Hp} {h' : Heap} {kvs : List (Key × V)} {vs : List (Key × Value)} (z : kvs.length ≤ sizeLine) (hd : (a == sysModules) = false) (rel : KV kvs vs) (dd : h'.DictOf (mixKind P w) a vs) :
    ObjOk P w H' h' a (.dK kvs) := ⟨z, hd, vs, rel, dd⟩
/-- d[y] = v -/
theorem d_setItem {H' : Hp} {Q : Unit → Shared → Prop} (hu : A.units + 1 < cLine) (I : Inv X pins σ H s) (g : DPut H a y v H') (ry : RelV y u) (rv : RelV v r) (h : ∀ s', Inv X pins σ H' s' → Q () s') :
    wpAny (model X.prog X.w) A (setItem (.ref a) u r) Q E s := by
  rcases g with ⟨kvs, k, e, ey, l, eH⟩ | ⟨kvs, k, b, e, ey, eb, l, eH⟩
  · subst ey eH
    obtain ⟨z, hd, vs, rel, dd⟩ := dk_of I.hok e
    have hz : vs.length ≤ sizeLine := by rw [← rel.length]; exact z
    have hl : (putK kvs k v).length ≤ sizeLine := by have := length_putK kvs k v; omega
    refine wpAny_setItem_pairs (hsz := hz) (kV_is ry) dd fun h' dd' hs => h _ ?_
    have he : ∃ q, h'.get? a = some q := let ⟨q, _, _, hq, _⟩ := dd'; ⟨q, hq⟩
    exact d_write I (by rw [e]; exact True.intro) hs he (dk_new hl hd (rel.put k rv) dd')
  · subst ey eH
    cases (show u = Value.ref b from ry)
    obtain ⟨z, hd, xs, rel, dd⟩ := dt_of I.hok e
    have hz : xs.length ≤ sizeLine := by rw [← Paired.length rel]; exact z
    have hl : (putK kvs k v).length ≤ sizeLine := by have := length_putK kvs k v; omega
    refine wpAny_setItem_heap (hsz := hz) (tupleKind_room_in1 hu) (key_of I.hok eb) dd fun h' dd' hs => h _ ?_
    obtain ⟨q, es, ep, hq, h2, h3, h4, _, h5⟩ := dd'
    refine d_write I (by rw [e]; exact True.intro) hs ⟨q, hq⟩ ⟨hl, hd, _, (rel.put k eb rv).keeps fun c ys ec => ?_, q, es, ep, hq, h2, h3, h4, h5⟩
    rw [upd_ne (ne_of ec e (fun z => nomatch z))]
    exact ec
end

section
variable {X : Cx} {pins : List (Addr × Obj)} {σ : St} {H : Hp} {s : Shared} {a : Addr} {kvs : List (Key × V)} {k : Key} {u : Value} {A : Around} {E : Value → Shared → Prop}
end


/-! ### readings and rules -/
/-- the element of a subscription, not a slice -/
def NoSl (i : Expr) : Prop := ∀ ov iv, subscripted i false ov iv = operate [ov, iv] (getItem ov iv)
theorem subD_of {prog : Program} {w : World} {A : Around} {E : Value → Shared → Prop} {s : Shared} {env : Env} {value slice : Expr} {pos : Pos} {T id : String} {Q : Value → Shared → Prop}
    (hl : typeLookup (.type T) "__getitem__" = pure (some (.builtin id))) (hs : NoSl slice)
    (h : wpAny (model prog w) A (eval value env) (fun o s₁ => wpAny (model prog w) A (eval slice env) (fun i s₂ => s₂.TypeIs o T ∧ wpAny (model prog w) A (getItem o i) Q E s₂) E s₁) E s) :
    wpAny (model prog w) A (eval (.Subscript value slice pos) env) Q E s := by
  refine Subscript_ (wpAny_mono h (fun o s₁ h₁ => wpAny_mono h₁ (fun i s₂ h₂ => ?_) fun _ _ x => x) fun _ _ x => x)
  obtain ⟨hT, h₂⟩ := h₂
  unfold subscriptTail
  refine wpAny_bind ?_
  rw [getitemInPython_of_ne hT.not_modules]
  refine wpAny_bind (wpAny_specialOf hT hl ?_)
  have fin : wpAny (model prog w) A (subscripted slice false o i) (fun r s₃ => wpAny (model prog w) A (letTemporaryGo value o r >>= fun _ => pure r) Q E s₃) E s₂ := by
    rw [hs o i]
    exact wpAny_operating (wpAny_mono h₂ (fun r s₃ h₃ => wpAny_bind (wpAny_letTemporaryGo (wpAny_pure h₃))) fun _ _ x => x)
  first
    | exact wpAny_pure (wpAny_bind fin)
    | exact wpAny_bind (wpAny_pure (wpAny_bind fin))
    | exact wpAny_bind fin

theorem dict_typeIs {X : Cx} {pins : List (Addr × Obj)} {σ : St} {H : Hp} {s : Shared} {a : Addr} {y : V} {o : Option V} (I : Inv X pins σ H s) (g : DGet H a y o) : s.TypeIs (.ref a) "dict" := by
  rcases g with ⟨kvs, k, e, _, _⟩ | ⟨kvs, k, b, e, _, _, _⟩
  · obtain ⟨_, _, vs, _, dd⟩ := dk_rd I.hok e
    exact dd.typeIs
  · obtain ⟨_, _, xs, _, dd⟩ := dt_rd I.hok e
    exact dd.typeIs

/-- d[y] -/
def tDGet (td ty : TE) : TE := fun σ H Q => td σ H fun x H1 => ty σ H1 fun y H2 => ∃ a v, x = .ref a ∧ DGet H2 a y (some v) ∧ Q v H2
/-- y in d, y not in d -/
def tDIn (ty td : TE) : TE := fun σ H Q => ty σ H fun y H1 => td σ H1 fun x H2 => ∃ a o, x = .ref a ∧ DGet H2 a y o ∧ Q (.bl o.isSome) H2
def tDNotIn (ty td : TE) : TE := fun σ H Q => ty σ H fun y H1 => td σ H1 fun x H2 => ∃ a o, x = .ref a ∧ DGet H2 a y o ∧ Q (.bl (!o.isSome)) H2
/-- d[y] = v -/
def sDPut (td ty tv : TE) : TS := fun D σ H => tv σ H fun v H1 => td σ H1 fun x H2 => ty σ H2 fun y H3 => ∃ a H4, x = .ref a ∧ DPut H3 a y v H4 ∧ D.nx σ H4
/-- d[y] op= v -/
def sDAug (td ty tv : TE) (rd : V → V → Hp → VK → Prop) : TS := fun D σ H => td σ H fun x H1 => ty σ H1 fun y H2 => ∃ a v, x = .ref a ∧ DGet H2 a y (some v) ∧
  tv σ H2 fun y2 H3 => rd v y2 H3 fun z H4 => ∃ H5, DPut H4 a y z H5 ∧ D.nx σ H5
/-- del d[y] -/
def sDDel (td ty : TE) : TS := fun D σ H => td σ H fun x H1 => ty σ H1 fun y H2 => ∃ a kvs k, x = .ref a ∧ H2 a = some (.dK kvs) ∧ y = kV k ∧ (valV kvs k).isSome = true ∧ D.nx σ (upd H2 a (.dK (dropK kvs k)))

section
variable {X : Cx} {o i e value : Expr} {pos pos' tpos : Pos} {td ty tv : TE}
theorem pe_dget (hu : X.A.units + 1 < cLine) (ho : PE X o td) (hi : PE X i ty) (hs : NoSl i) : PE X (.Subscript o i pos) (tDGet td ty) := by
  intro pins s σ H Q I h
  refine subD_of PySem.F.slot_dict_getitem.lookup hs (thn (ho pins s σ H _ I h) fun u s1 ⟨x, H1, I1, rx, q1⟩ => thn (hi pins s1 σ H1 _ I1 q1) fun iv s2 ⟨y, H2, I2, ry, a, v, ex, g, q2⟩ => ?_)
  subst ex
  obtain rfl : u = Value.ref a := rx
  exact ⟨dict_typeIs I2 g, d_getItem hu I2 g ry fun w' s3 I3 rw' => ⟨v, H2, I3, rw', q2⟩⟩
theorem pc_din (hu : X.A.units + 1 < cLine) (hi : PE X i ty) (ho : PE X o td) : PC X .In i o (tDIn ty td) := by
  intro pins s σ H Q I h
  refine thn (hi pins s σ H _ I h) fun iv s1 ⟨y, H1, I1, ry, q1⟩ => thn (ho pins s1 σ H1 _ I1 q1) fun u s2 ⟨x, H2, I2, rx, a, ov, ex, g, q2⟩ => ?_
  subst ex
  obtain rfl : u = Value.ref a := rx
  exact d_in hu I2 g ry fun s3 I3 => ⟨.bl ov.isSome, H2, I3, rfl, q2⟩
theorem pc_dnotin (hu : X.A.units + 1 < cLine) (hi : PE X i ty) (ho : PE X o td) : PC X .NotIn i o (tDNotIn ty td) := by
  intro pins s σ H Q I h
  refine thn (hi pins s σ H _ I h) fun iv s1 ⟨y, H1, I1, ry, q1⟩ => thn (ho pins s1 σ H1 _ I1 q1) fun u s2 ⟨x, H2, I2, rx, a, ov, ex, g, q2⟩ => ?_
  subst ex
  obtain rfl : u = Value.ref a := rx
  exact d_notIn hu I2 g ry fun s3 I3 => ⟨.bl (!ov.isSome), H2, I3, rfl, q2⟩
theorem ps_dput (hu : X.A.units + 1 < cLine) (ho : PE X o td) (hi : PE X i ty) (hv : PE X value tv) (hs : swapsWith value (some (.Subscript o i pos')) pos.line X.env = pure false) :
    PS X (.Assign [.Subscript o i pos'] value pos) (sDPut td ty tv) := by
  intro pins s σ H D I h
  refine wpAny_Assign_Subscript (thn (hv pins s σ H _ I h) fun r s1 ⟨v, H1, I1, rv, q1⟩ => thn (ho pins s1 σ H1 _ I1 q1) fun u s2 ⟨x, H2, I2, rx, q2⟩ => thn (hi pins s2 σ H2 _ I2 q2) fun iv s3 ⟨y, H3, I3, ry, a, H4, ex, g, q3⟩ => ?_) hs
  subst ex
  obtain rfl : u = Value.ref a := rx
  exact d_setItem hu I3 g ry rv fun s4 I4 => ⟨σ, H4, I4, q3⟩
end


/-! ### displays -/
theorem dk_empty {P : Program} {w : World} {H : Hp} (h : Heap) (hb : sysModules < h.objs.size) : ObjOk P w H (h.push { cls := .type "dict", data := .dict #[] }) h.objs.size (.dK []) :=
  ⟨Nat.zero_le _, beq_eq_false_iff_ne.mpr (Ne.symm (Nat.ne_of_lt hb)), [], .nil, Heap.DictOf.new h⟩
theorem dt_empty {P : Program} {w : World} {H : Hp} (h : Heap) (hb : sysModules < h.objs.size) : ObjOk P w H (h.push { cls := .type "dict", data := .dict #[] }) h.objs.size (.dT []) :=
  ⟨Nat.zero_le _, beq_eq_false_iff_ne.mpr (Ne.symm (Nat.ne_of_lt hb)), [], .nil, _, #[], 0, Heap.get?_push_size _ rfl, ⟨rfl, rfl, rfl⟩, rfl, rfl, List.nodup_nil⟩
/-- {}, to be a dict of the kind that is wanted -/
def tDNewK : TE := fun _ H Q => ∀ p, H p = none → Q (.ref p) (upd H p (.dK []))
def tDNewT : TE := fun _ H Q => ∀ p, H p = none → Q (.ref p) (upd H p (.dT []))
section
variable {X : Cx} {pos : Pos}
theorem pe_dnewK : PE X (.Dict [] [] pos) tDNewK := fun pins s σ H Q I h =>
  wpAny_Dict_empty ⟨.ref s.heap.objs.size, _, I.laid (a := s.heap.objs.size) (o := .dK []) (t' := s.toks) (fun _ _ q => Heap.get?_push_of_some _ q) (Nat.le_refl _) (dk_empty s.heap I.big), rfl, h _ (I.hok.fresh (Nat.le_refl _))⟩
theorem pe_dnewT : PE X (.Dict [] [] pos) tDNewT := fun pins s σ H Q I h =>
  wpAny_Dict_empty ⟨.ref s.heap.objs.size, _, I.laid (a := s.heap.objs.size) (o := .dT []) (t' := s.toks) (fun _ _ q => Heap.get?_push_of_some _ q) (Nat.le_refl _) (dt_empty s.heap I.big), rfl, h _ (I.hok.fresh (Nat.le_refl _))⟩
end

/-- the pairs of a display, from the left -/
def tPairs : List (TE × TE) → St → Hp → (List (V × V) → Hp → Prop) → Prop
  | [], _, H, Q => Q [] H
  | (tk, tv) :: r, σ, H, Q => tk σ H fun x H1 => tv σ H1 fun y H2 => tPairs r σ H2 fun ps H3 => Q ((x, y) :: ps) H3
abbrev VV : List (V × V) → List (Value × Value) → Prop := Paired fun p q => RelV p.1 q.1 ∧ RelV p.2 q.2
def PPs (X : Cx) (pos : Pos) (keys : List (Option Expr)) (values : List Expr) (trs : List (TE × TE)) : Prop :=
  ∀ (pins : List (Addr × Obj)) (s : Shared) (σ : St) (H : Hp) (Q : List (V × V) → Hp → Prop), Inv X pins σ H s → tPairs trs σ H Q →
    wpAny (model X.prog X.w) X.A (evalPairs (pairTrees keys values X.env pos)) (fun vs s' => ∃ ps H', Inv X pins σ H' s' ∧ VV ps vs ∧ Q ps H') X.xe s

def mergeK (kvs more : List (Key × V)) : List (Key × V) := more.foldl (fun acc kv => putK acc kv.1 kv.2) kvs
/-- {k: v, ..} with keys ints and texts; the new dict stands empty while the pairs are made -/
def tDisp (trs : List (TE × TE)) : TE := fun σ H Q => ∀ p, H p = none → tPairs trs σ (upd H p (.dK [])) fun ps H2 => H2 p = some (.dK []) ∧ ∃ kvs : List (Key × V), ps = kvs.map (fun kv => (kV kv.1, kv.2)) ∧ kvs.length ≤ 15 ∧ Q (.ref p) (upd H2 p (.dK (mergeK [] kvs)))


/-! ### methods -/
/-- a method call o.m(e) of a built-in, with one argument: what must be seen of the text -/
structure M1 (X : Cx) (o : Expr) (m : Str) (apos : Pos) (e : Expr) (cpos : Pos) : Prop where
  base : attributeBase o m X.env (eval o X.env) = eval o X.env
  few : ((backTo cpos (starEach [e] X.env)).all (fun x => !x.1) && (backToKw cpos (keywordEach [] X.env)).all (fun x => x.1.isSome)
    && decide (([e] : List Expr).length + ([] : List Keyword).length + (if ([] : List Keyword).isEmpty then 0 else 1) < 30)) = true
  line : (apos.endLine == cpos.line) = true
  trees : backTo cpos (starEach [e] X.env) = [(false, eval e X.env)]
structure M2 (X : Cx) (o : Expr) (m : Str) (apos : Pos) (e f : Expr) (cpos : Pos) : Prop where
  base : attributeBase o m X.env (eval o X.env) = eval o X.env
  few : ((backTo cpos (starEach [e, f] X.env)).all (fun x => !x.1) && (backToKw cpos (keywordEach [] X.env)).all (fun x => x.1.isSome)
    && decide (([e, f] : List Expr).length + ([] : List Keyword).length + (if ([] : List Keyword).isEmpty then 0 else 1) < 30)) = true
  line : (apos.endLine == cpos.line) = true
  trees : backTo cpos (starEach [e, f] X.env) = [(false, eval e X.env), (false, eval f X.env)]

/-- a is a dict, whatever its keys -/
def IsD (H : Hp) (a : Addr) : Prop := (∃ kvs, Rd H a (.dK kvs)) ∨ ∃ kvs, Rd H a (.dT kvs)
theorem isD_at {X : Cx} {pins : List (Addr × Obj)} {σ : St} {H : Hp} {s : Shared} {a : Addr} (I : Inv X pins σ H s) (d : IsD H a) :
    s.TypeIs (.ref a) "dict" ∧ (∀ b, Value.ref a = .ref b → ∃ ob, s.heap.get? b = some ob ∧ ob.dict = none) ∧ (a == sysModules) = false := by
  rcases d with ⟨kvs, e⟩ | ⟨kvs, e⟩
  · obtain ⟨_, hd, vs, _, dd⟩ := dk_rd I.hok e
    refine ⟨dd.typeIs, fun b q => ?_, hd⟩
    cases q
    obtain ⟨ob, _, _, h1, h2, _⟩ := dd
    exact ⟨ob, h1, h2.2.1⟩
  · obtain ⟨_, hd, xs, _, dd⟩ := dt_rd I.hok e
    refine ⟨dd.typeIs, fun b q => ?_, hd⟩
    cases q
    obtain ⟨ob, _, _, h1, h2, _⟩ := dd
    exact ⟨ob, h1, h2.2.1⟩

section
variable {X : Cx} {pins : List (Addr × Obj)} {σ : St} {H : Hp} {s : Shared} {a : Addr} {y d : V} {u r : Value} {o : Option V} {A : Around} {E : Value → Shared → Prop}
/-- d.get(y) -/
theorem d_get1 {Q : Value → Shared → Prop} (hu : A.units + 1 < cLine) (I : Inv X pins σ H s) (g : DGet H a y o) (ry : RelV y u) (h : ∀ w' s', Inv X pins σ H s' → RelV (o.getD .non) w' → Q w' s') :
    wpAny (model X.prog X.w) A (call (.builtin "dict.get") [.ref a, u]) Q E s := by
  rcases g with ⟨kvs, k, e, ey, l⟩ | ⟨kvs, k, b, e, ey, eb, l⟩
  · subst ey
    obtain ⟨z, hd, vs, rel, dd⟩ := dk_rd I.hok e
    refine call_meetsIn PySem.F.slot_dict_get dd.typeIs PySem.F.entry_dict_get (PySem.F.args_dict_get_2 _ _) (meets_dict_get (mixKind X.prog X.w) a (kV_is ry) hd) ⟨_, dd.mapOf, h _ _ (I.tok _) ?_⟩
    rw [l]
    exact (rel.val k).getD rfl
  · subst ey
    cases (show u = Value.ref b from ry)
    obtain ⟨z, hd, xs, rel, dd⟩ := dt_rd I.hok e
    refine call_meetsIn PySem.F.slot_dict_get dd.typeIs PySem.F.entry_dict_get (PySem.F.args_dict_get_2 _ _) (meetsH_dict_get (tupleKind (mixKind X.prog X.w)) a b hd) ⟨tupleKind_room_in1 hu, k, xs, key_of I.hok eb, dd, h _ _ (I.tok _) ?_⟩
    rw [l]
    exact (rel.val k).getD rfl
end

def tDGet1 (td ty : TE) : TE := fun σ H Q => td σ H fun x H1 => ∃ a, x = .ref a ∧ IsD H1 a ∧ ty σ H1 fun y H2 => ∃ o, DGet H2 a y o ∧ Q (o.getD .non) H2
def tDGet2 (td ty tx : TE) : TE := fun σ H Q => td σ H fun x H1 => ∃ a, x = .ref a ∧ IsD H1 a ∧ ty σ H1 fun y H2 => tx σ H2 fun z H3 => ∃ o, DGet H3 a y o ∧ Q (o.getD z) H3
/-- d.pop(k): there; d.pop(k, x): there or not -/
def tDPop1 (td ty : TE) : TE := fun σ H Q => td σ H fun x H1 => ∃ a, x = .ref a ∧ IsD H1 a ∧ ty σ H1 fun y H2 => ∃ kvs k v, H2 a = some (.dK kvs) ∧ y = kV k ∧ valV kvs k = some v ∧ Q v (upd H2 a (.dK (dropK kvs k)))
def tDPop2 (td ty tx : TE) : TE := fun σ H Q => td σ H fun x H1 => ∃ a, x = .ref a ∧ IsD H1 a ∧ ty σ H1 fun y H2 => tx σ H2 fun z H3 => ∃ kvs k, H3 a = some (.dK kvs) ∧ y = kV k ∧
  (∀ v, valV kvs k = some v → Q v (upd H3 a (.dK (dropK kvs k)))) ∧ (valV kvs k = none → Q z H3)
section
variable {X : Cx} {o e f : Expr} {apos cpos : Pos} {td ty tx : TE}
theorem pe_dget1 (hu : X.A.units + 1 < cLine) (ho : PE X o td) (he : PE X e ty) (m : M1 X o "get" apos e cpos) : PE X (.Call (.Attribute o "get" apos) [e] [] cpos) (tDGet1 td ty) := by
  intro pins s σ H Q I h
  refine wpAny_Call_method m.base m.few m.line PySem.F.plainAttrs_dict PySem.F.slot_dict_get PySem.F.type_dict_get (thn (ho pins s σ H _ I h) fun u s1 ⟨x, H1, I1, rx, a, ex, d, q1⟩ => ?_)
  subst ex
  obtain rfl : u = Value.ref a := rx
  obtain ⟨t1, t2, _⟩ := isD_at I1 d
  refine ⟨t1, t2, ?_⟩
  rw [m.trees]
  refine Calls.callWith_builtin rfl (Calls.evalArgs_plain (Calls.spliced_cons (thn (he pins s1 σ H1 _ I1 q1) fun iv s2 ⟨y, H2, I2, ry, ov, g, q2⟩ => Calls.spliced_nil ?_)))
  exact d_get1 hu I2 g ry fun w' s3 I3 rw' => ⟨_, H2, I3, rw', q2⟩
end

/-! ### dict(d): a copy -/
section
variable {X : Cx} {pins : List (Addr × Obj)} {σ : St} {H : Hp} {s : Shared} {a : Addr} {kvs : List (Key × V)} {A : Around} {E : Value → Shared → Prop}
end


section
variable {X : Cx} {pins : List (Addr × Obj)} {σ : St} {H : Hp} {s : Shared} {a : Addr} {y : V} {u : Value} {A : Around} {E : Value → Shared → Prop}
end
end L2

namespace Att
open PySem PySem.W PySem.Calls PyProof.Rows

/-! ### the script -/
theorem ints_of_wellAll {P : Params} {h : Heap} : ∀ (ns : List Int) (vs : List Value), WellAll P h vs (ns.map WData.int) → IntsAre vs ns := by
  intro ns
  induction ns with
  | nil =>
    intro vs w
    rw [List.map_nil] at w
    cases w
    exact .nil
  | cons n ns ih =>
    intro vs w
    rw [List.map_cons] at w
    cases w with
    | cons a b =>
      cases a
      exact .cons _ _ (ih _ b)

theorem script_of {l : OpenLaw} {n : Nat} (hn : l.most = some n) {P : Params} {h : Heap} {args : List WData} {vals : List Value}
    (hpre : l.row.toRowW.claim.pre args = true) (hwl : WellAll P h vals args) :
    ∃ a vs ns, vals = [Value.ref a] ∧ args = [WData.list (ns.map WData.int)] ∧ h.get? a = some { cls := .type "list", data := .seq vs.toArray } ∧ IntsAre vs ns ∧ ns.length ≤ n := by
  have hsh : WShape.hasAll [] args [.list .int] = true := (pre_splitW hpre).1
  have hc : l.pre.holds [] { args := args } = true := (pre_splitW hpre).2
  obtain ⟨d, r, rfl, h1, h2⟩ := hasAllW_cons hsh
  obtain rfl := hasAllW_nil h2
  obtain ⟨xs, rfl, h3⟩ := hasW_list h1
  obtain ⟨ns, rfl⟩ := items_int h3
  have hlen : ns.length ≤ n := by
    unfold OpenLaw.pre at hc
    have h4 : (WTm.not (.lt (.lit (.int (n : Int))) (.len (.arg 0)))).holds [] { args := [.list (ns.map .int)] } = true := by
      have h4 := (holds_andW hc).1
      rw [hn] at h4
      exact h4
    have h5 := condW_of h4 (w_not (w_lt w_lit (w_len_list (w_arg rfl))))
    rw [List.length_map] at h5
    refine Nat.le_of_not_lt fun q => ?_
    have q' : (n : Int) < ((ns.length : Nat) : Int) := by omega
    first
      | (rw [decide_eq_true q'] at h5; exact absurd h5 (by decide))
      | (simp at h5; omega)
  cases hwl with
  | cons w1 w2 =>
    cases w2
    cases w1 with
    | list ho hall => exact ⟨_, _, ns, rfl, rfl, ho, ints_of_wellAll ns _ hall, hlen⟩

theorem post_true (l : OpenLaw) (args : List WData) : l.row.toRowW.claim.post args (.bool true) args = true :=
  postW_of (r := l.row.toRowW) (X := (true == true))
    (show WShape.has [] (.bool true) .bool = true by first | rfl | decide | simp [WShape.has, WShape.arms, WShape.armsAll])
    (show (WTm.eq .res (.lit (.bool true))).value [] { args := args, res := some (.bool true), after := args } = some (.bool (true == true)) from w_eq_bool (w_res rfl) w_lit) rfl

/-! ### the attachment: holds_open's last premise (the goal 'hc' behind k_head) from a wpAny of the law's body -/

/-- the same from a codeAny of the CALL (for a layer whose function contracts speak of calls) -/
theorem attach_call {l : OpenLaw} {n : Nat} {q : Program} {loose : List Str} {XP : (Str → Option Value) → Heap → Prop} {YP : World → Heap → Prop} {d : DefRec}
    (hn : l.most = some n) (hdf : d.params.defaults = [])
    (call : ∀ (w : World) (s₀ s₁ : Shared) (mg mb : Str → Option Value) (fa : Addr) (o : Obj) (pm cd doc : Value) (a : Addr) (vs : List Value) (ns : List Int),
      Ground q loose [] XP w s₀ mg mb s₁.heap → YP w s₁.heap →
      s₁.heap.get? fa = some o → o.data = .func (docDef d.name d.params d.body d.scope pm cd doc) → s₁.heap.CodeRec cd d.name → mg d.name = some (.ref fa) →
      s₁.heap.get? a = some { cls := .type "list", data := .seq vs.toArray } → IntsAre vs ns → ns.length ≤ n → s₁.gens = #[] →
      codeAny (model l.prog w) callerA (.call (.ref fa) ⟨[.ref a], []⟩) (fun r s' => r = .ok (.ret (.bool true)) ∧ OldK s₁.heap s'.heap ∧ s'.os = s₁.os ∧ AllBare s'.gens) s₁) :
    WalkO q loose XP YP l.row.toRowW d [] (fun f vs => PySem.call f vs) := by
  intro w s₀ s₁ mg mb G Y fa o pm cd doc dV kV ho hd hcd hD hmg hg args vals as hpre hlay hrd hwl hlo
  obtain rfl : dV = .none := Dflts.none hD hdf
  obtain rfl : kV = .none := Dflts.noKw hD
  obtain ⟨a, vs, ns, rfl, rfl, hobj, hints, hlen⟩ := script_of hn hpre hwl
  refine enter_call (codeAny_mono (call w s₀ s₁ mg mb fa o pm cd doc a vs ns G Y ho (fd_plain hd) hcd hmg hobj hints hlen hg) fun r s' hq => ?_)
  obtain ⟨rfl, h2, h3, h4⟩ := hq
  exact ⟨.inl ⟨.bool true, .bool true, [], rfl, fun _ => rfl, .bool true, post_true l _, fun _ => ⟨List.Pairwise.nil, fun _ hm => (nomatch hm)⟩⟩, h2, h3, h4⟩


/-! ### rules over ANY heap (no ledger) from facts about the written part K: the library's own take a ledger (News) for what they write -/
section
variable {prog : Program} {w : World} {A : Around} {E : Value → Shared → Prop} {s : Shared} {K : Frag}





/-! the whole heap as the ledger: makes every rule that writes through a ledger a rule over any heap -/
def noObjs (h : Heap) : Heap := { h with objs := #[] }
def ledger (h : Heap) (L d : Addr) : List (Addr × Obj) := (List.range h.objs.size).filterMap fun a => if a = L ∨ a = d then none else (h.get? a).map fun o => (a, o)

end
end Att

namespace L2
open PySem PySem.Spec PyProof.Rows

theorem vals_ints : ∀ {vs : List Value} {ns : List Int}, IntsAre vs ns → Vals (ns.map V.int) vs
  | _, _, .nil => .nil
  | _, _, .cons n t h => .cons ⟨t, rfl⟩ (vals_ints h)

/-- nothing is tracked but the script, known to the object (or it is an object of the module) -/
def Only (H : Hp) : Prop := ∀ b, H b = none ∨ ∃ o xs, H b = some (.frz o (.lst xs))

/-- THE HEAD: the law's promise, at the heap behind the top. F, the promise of the law's def, may use that base is part of the heap (so K.In base, base.Ns mainGlobals mg stand in Mod) -/
theorem law_call {P : Program} {w : World} {K : PySem.W.Frag} {mg mb : Str → Option Value} {CX : CXT} {k : Nat} {fa a : Addr} {fd : FuncData} {x : Str} {sp : Sp} {s₁ : Shared} {vs : List Value} {ns : List Int}
    (KX : K.In s₁.heap) (hns : s₁.heap.Ns mainGlobals mg) (hb : s₁.heap.Ns builtinsNs mb) (hbb : ∀ x : Str, x ≠ "__name__" → mb x = bootBuiltins x) (hlim : s₁.heap.NoLimit) (hg : s₁.gens = #[])
    (ha : s₁.heap.get? a = some { cls := .type "list", data := .seq vs.toArray }) (hi : IntsAre vs ns) (hl : ns.length ≤ sizeLine) (hr : Room k callerA)
    (F : ∀ base : Heap, K.In base → base.Ns mainGlobals mg → FnOk P w K mg base CX k fa fd [x] sp) (hbind : ∀ (s : Shared) (u : Value), BindsTo s fd ⟨[u], []⟩ [(x, u)])
    (hsp : ∀ H : Hp, Only H → SqL K H a (ns.map V.int) → sp [.ref a] H (fun v _ => v = .bl true) fun _ _ _ => False)
    (hCX : ∀ H e s', CX [] H s₁ (fun _ _ _ => False) e s' → False) :
    codeAny (model P w) callerA (.call (.ref fa) ⟨[.ref a], []⟩) (fun r s' => r = .ok (.ret (.bool true)) ∧ OldK s₁.heap s'.heap ∧ s'.os = s₁.os ∧ AllBare s'.gens) s₁ := by
  have rv := vals_ints hi
  have lenV := hi.length
  -- from an abstract heap in which nothing but the script may be tracked
  have core : ∀ H : Hp, Only H → SqL K H a (ns.map V.int) → HOk P w H s₁.heap → (∀ b, H b ≠ none → b = a) → (H a ≠ none → K.lookup a = none) →
      codeAny (model P w) callerA (.call (.ref fa) ⟨[.ref a], []⟩) (fun r s' => r = .ok (.ret (.bool true)) ∧ OldK s₁.heap s'.heap ∧ s'.os = s₁.os ∧ AllBare s'.gens) s₁ := by
    intro H hO hS hok hA hK
    have base_of : ∀ {b : Addr} {o : Obj}, s₁.heap.get? b = some o → H b = none → (hidT s₁.heap H).get? b = some o := fun e n => hidT_get e n
    have noA : ∀ {b : Addr} {o : Obj} {es : Array DictEntry} {ep : Nat}, s₁.heap.get? b = some o → o.data = .dict es ep → H b = none := fun {b o es ep} e d => by
      cases q : H b with
      | none => rfl
      | some u =>
        have e' : b = a := hA b (by rw [q]; simp)
        subst e'
        rw [ha] at e; cases e
        have d' : Data.seq vs.toArray _ = Data.dict es ep := d
        cases d'
    have nsK : ∀ {b : Addr} {m : Str → Option Value}, s₁.heap.Ns b m → (hidT s₁.heap H).Ns b m := fun {b m} ⟨o, es, ep, e, d, r⟩ => ⟨o, es, ep, base_of e (noA e d), d, r⟩
    have hKb : K.In (hidT s₁.heap H) := fun b o e => base_of (KX b o e) (by
      cases q : H b with
      | none => rfl
      | some u =>
        have e' : b = a := hA b (by rw [q]; simp)
        subst e'
        rw [hK (by rw [q]; simp)] at e; cases e)
    have hM : Mod K mg (hidT s₁.heap H) := ⟨hKb, nsK hns, ⟨mb, nsK hb, hbb⟩, let ⟨mc, h1, h2⟩ := hlim; ⟨mc, nsK h1, h2⟩⟩
    have e0 : Env0 P w K mg (hidT s₁.heap H) callerA [] s₁ H := ⟨rfl, hM, fun b o e => of_hidT e, Nat.le_of_eq (hidT_size _ _), trivial, fun b hb => absurd (show b ∈ ([] : List Addr) from hb) (by simp), hok, .of_eq hg⟩
    refine codeAny_mono ((F _ hKb (nsK hns)).run callerA [] s₁ H ⟨[.ref a], []⟩ [.ref a] [.ref a] _ _ hr e0 (hbind s₁ (.ref a)) (.cons rfl .nil) (hsp H hO hS)) fun r s' h => ?_
    cases r with
    | error e => exact (hCX H e s' h).elim
    | ok fl =>
      cases fl with
      | next => exact False.elim h
      | brk => exact False.elim h
      | cont => exact False.elim h
      | ret u =>
        obtain ⟨v, H', os, bare, un, hok', r', q⟩ := h
        have q' : v = .bl true := q
        subst q'
        obtain rfl : u = Value.bool true := r'
        refine ⟨rfl, OldK.of_keep fun b o e => ?_, os, bare⟩
        cases q : H b with
        | none => exact un.keep b o e q (by intro z; exact absurd (show b ∈ ([] : List Addr) from z) (by simp)) (by simp)
        | some u =>
          rcases hO b with z | ⟨ob, xs, z⟩
          · rw [q] at z; cases z
          · have z2 := un.frzs b ob _ z
            obtain ⟨e1, _⟩ := hok b _ z
            obtain ⟨e2, _⟩ := hok' b _ z2
            rw [e] at e1; cases e1
            exact e2
  cases hk : K.lookup a with
  | some o =>
    -- the script is one of the module's own objects
    have e := KX a o hk
    rw [ha] at e
    cases e
    refine core (fun _ => none) (fun _ => .inl rfl) (.inr ⟨_, vs.toArray, _, hk, rfl, rfl, rfl, by rw [List.size_toArray, lenV]; exact hl, by simpa using rv⟩) (fun b u z => by have z' : (none : Option HO) = some u := z; cases z') (fun b z => absurd rfl z) fun z => absurd rfl z
  | none =>
    refine core (fun b => if b = a then some (.frz { cls := .type "list", data := .seq vs.toArray } (.lst (ns.map V.int))) else none) (fun b => ?_) (.inl (.inr ⟨{ cls := .type "list", data := .seq vs.toArray }, if_pos rfl⟩)) (fun b u z => ?_) (fun b z => ?_) fun _ => hk
    · by_cases hb : b = a
      · exact .inr ⟨_, _, if_pos hb⟩
      · exact .inl (if_neg hb)
    · by_cases hb : b = a
      · have z' := (if_pos hb).symm.trans z
        cases z'
        subst hb
        exact ⟨ha, by rw [List.length_map]; exact hl, vs, _, rv, ha⟩
      · have z' := (if_neg hb).symm.trans z
        cases z'
    · by_cases hb : b = a
      · exact hb
      · exact absurd (if_neg hb) z
end L2

namespace L2
open PySem PySem.Spec PyProof.Rows

abbrev KOf {K : PySem.W.Frag} {h : Heap} (_ : K.In h) : PySem.W.Frag := K

/-- the goal that k_head leaves (case hc), from the law's promise. F gives the function object fd (K's own) once, then the promise over every base -/
theorem walk_of {l : PySem.W.OpenLaw} {n k : Nat} {q : Program} {loose : List Str} {XP : (Str → Option Value) → Heap → Prop} {YP : World → Heap → Prop} {d : DefRec} {K : Params → PySem.W.Frag} {CX : World → CXT} {sp : World → Sp} {x : Str}
    (hn : l.most = some n) (hn2 : n ≤ sizeLine) (hdf : d.params.defaults = []) (hr : Room k callerA)
    (hY : ∀ (w : World) (h : Heap), YP w h → (K w.params).In h)
    (F : ∀ (w : World) (mg : Str → Option Value) (fa : Addr) (h : Heap), (K w.params).In h → h.Ns mainGlobals mg → mg d.name = some (.ref fa) →
      ∃ fd : FuncData, (∀ (s : Shared) (u : Value), BindsTo s fd ⟨[u], []⟩ [(x, u)]) ∧
        ∀ base : Heap, (K w.params).In base → base.Ns mainGlobals mg → FnOk l.prog w (K w.params) mg base (CX w) k fa fd [x] (sp w))
    (hsp : ∀ (w : World) (H : Hp) (a : Addr) (ns : List Int), ns.length ≤ n → Only H → SqL (K w.params) H a (ns.map V.int) → sp w [.ref a] H (fun v _ => v = .bl true) fun _ _ _ => False)
    (hCX : ∀ (w : World) (H : Hp) (s : Shared) (e : Value) (s' : Shared), CX w [] H s (fun _ _ _ => False) e s' → False) :
    PySem.W.WalkO q loose XP YP l.row.toRowW d [] (fun f vs => PySem.call f vs) := by
  refine Att.attach_call hn hdf fun w s₀ s₁ mg mb fa o pm cd doc a vs ns G Y ho hd hcd hmg hobj hints hlen hg => ?_
  have KX := hY w _ Y
  obtain ⟨fd, hb, hF⟩ := F w mg fa _ KX G.T.g hmg
  exact law_call KX G.T.g G.T.b G.T.builtins G.T.nolimit hg hobj hints (Nat.le_trans hlen hn2) hr hF hb (fun H hO hS => hsp w H a ns hlen hO hS) fun H e s' => hCX w H s₁ e s'
end L2

/- THE LAST THEOREM (shape; LID, My.* are yours):
   My.Adr: a structure of the addresses that your layer names (classes, functions); My.Txt K t: a structure (Prop) of the equations over K;
   My.txt_mk : {K} {implicit addresses ..} (e1 : nsIn K mainGlobals "law" = some (some (.ref f))) (e2 : K.lookup f = some ⟨oc, od, .func (fnOf "law" "law" params body scope dV kV doc pm an cdv ct), sl⟩) (e3 : codeIn K cdv "law" = true) .. : ∃ t, My.Txt K t

set_option maxRecDepth 100000 in
set_option maxHeartbeats 0 in
theorem PySem.Challenge.cw_LID_holds : PySem.Challenge.rw_LID.Holds := by
  w_on; o_law; k_head; (case hw => w_witness2)
  k_fill
  refine L2.walk_of (l := PySem.Challenge.rw_LID) (n := 63) (k := 40) (x := "script") (CX := fun w => ..) (sp := fun _ => My.sp_law) rfl (by decide) rfl ⟨rfl, by decide, by decide⟩ (fun w h Y => PySem.W.kIn_of Y) ?F ?S ?C
  case F =>
    intro w mg fa h KX G hmg
    have T : ∃ t, My.Txt (L2.KOf KX) t := by
      dsimp only [L2.KOf]                          -- K must stand as «<heap const> w.params» for k_is
      refine' My.txt_mk ?e1 ?e2 ?e3 ..
      (case e1 => PySem.W.k_is)                    -- in the order: a name -> its address -> its object -> its parts
      (case e2 => PySem.W.k_is)
      ..
    obtain ⟨t, T⟩ := T
    have e0 := hmg.symm.trans (PySem.W.mg_of KX G T.law)
    cases e0                                       -- fa is the law's own address
    exact ⟨_, fun s u => .of_eq rfl, fun base kb nb => My.law_fn T kb nb⟩     -- if «.of_eq rfl» comes too early: refine' ⟨_, ?b, fun base kb nb => My.law_fn T kb nb⟩; exact fun s u => .of_eq rfl
  case S => exact fun w H a ns hl hO hS => ..
  case C => exact ..
(the tactic k_is has no namespace: write k_is) -/

/-! SHORT WORDS over the layer: a def of the text, its body, what a loop and a test want. -/
namespace L2
open PySem PySem.Spec PyProof.Rows

/-! ### the text by places -/
/-- the j-th statement of a class's body -/
def inClass (s : Stmt) (j : Nat) : Stmt := match s with
  | .ClassDef _ _ _ body _ _ _ _ _ _ _ => body.getD j (.Pass ⟨0, 0, 0, 0⟩)
  | _ => .Pass ⟨0, 0, 0, 0⟩
def defArgs (s : Stmt) : Arguments := match s with
  | .FunctionDef _ a _ _ _ _ _ _ _ _ => a
  | _ => { posonlyargs := [], args := [], vararg := none, kwonlyargs := [], kw_defaults := [], kwarg := none, defaults := [] }
def defBody (s : Stmt) : List Stmt := match s with
  | .FunctionDef _ _ b _ _ _ _ _ _ _ => b
  | _ => []
def defScope (s : Stmt) : Scope := match s with
  | .FunctionDef _ _ _ _ _ _ sc _ _ _ => sc
  | _ => { kind := .function, names := [], isGenerator := false, isCoroutine := false }

/-! ### no exception leaves a def -/
abbrev CX0 : CXT := fun _ _ _ _ _ _ => False
abbrev E0 : XK := fun _ _ _ => False
theorem pass0 {X : Cx} : Passes CX0 X E0 := fun _ _ _ _ _ _ _ h => h.elim

/-! ### a def (or method) of the text as it stands behind the top -/
structure Fun (K : PySem.W.Frag) (x qual : Str) (st : Stmt) (f : Addr) (fd : FuncData) : Prop where
  ex : ∃ (oc : Value) (od : Option Addr) (kV doc pm : Value) (an : Option Addr) (cdv ct : Value) (osl : Array (Option Value)),
    fd = PySem.W.fnOf x qual (defArgs st) (defBody st) (defScope st) .none kV doc pm an cdv ct ∧ K.lookup f = some ⟨oc, od, .func fd, osl⟩ ∧ PySem.W.codeIn K cdv qual = true
  kp : PySem.W.keepIn K (.ref f) = true
section
variable {P : Program} {w : World} {K : PySem.W.Frag} {mg : Str → Option Value} {base : Heap}
/-- THE RULE for a def: its body as a term of rules, and the reading of that term -/
theorem Fun.ok {x qual : Str} {st : Stmt} {f : Addr} {fd : FuncData} {N ps : List Str} {k : Nat} {sp : Sp} (F : Fun K x qual st f fd) (S : FnScope N ps (defScope st)) (len : ∀ vs H Q E, sp vs H Q E → vs.length = ps.length)
    (hbody : ∀ (cdv : Value) (A : Around) (outer : List Env) (s : Shared) (H : Hp) (vs : List V) (Q : VK) (E : XK), Room k (A.deeper (envOfC qual (defScope st) s.heap.objs.size f cdv)) → sp vs H Q E →
      ∃ t, PSs (cxOf CX0 P w K mg base N qual (defScope st) f cdv A outer s H E).nox (defBody st) t ∧ t { nx := fun _ H' => Q .non H', rt := Q } (start N vs) H) : FnOk P w K mg base CX0 (k + 1) f fd ps sp := by
  obtain ⟨oc, od, kV, doc, pm, an, cdv, ct, osl, rfl, lk, hcd⟩ := F.ex
  refine fn_of lk hcd S len fun A outer s H vs Q E hr hsp => ?_
  obtain ⟨t, h, q⟩ := hbody cdv A outer s H vs Q E hr hsp
  exact ⟨t, h.nox, q⟩
/-- how its arguments bind (no defaults): h is «fun _ _ _ _ _ _ us hl => match us, hl with | [_, _], _ => rfl», one _ a parameter -/
theorem Fun.binds {x qual : Str} {st : Stmt} {f : Addr} {fd : FuncData} {ps : List Str} (F : Fun K x qual st f fd)
    (h : ∀ (kV doc pm : Value) (an : Option Addr) (cdv ct : Value) (us : List Value), us.length = ps.length → bindArgs (PySem.W.fnOf x qual (defArgs st) (defBody st) (defScope st) .none kV doc pm an cdv ct) ⟨us, []⟩ = pure (ps.zip us)) : Binds K fd ps [] := by
  obtain ⟨oc, od, kV, doc, pm, an, cdv, ct, osl, rfl, lk, hcd⟩ := F.ex
  exact .all (h kV doc pm an cdv ct)
theorem fun_mk {x qual : Str} {st : Stmt} {f : Addr} {oc : Value} {od an : Option Addr} {osl : Array (Option Value)} {kV doc pm cdv ct : Value} (l : K.lookup f = some ⟨oc, od, .func (PySem.W.fnOf x qual (defArgs st) (defBody st) (defScope st) .none kV doc pm an cdv ct), osl⟩)
    (c : PySem.W.codeIn K cdv qual = true) (k : PySem.W.keepIn K (.ref f) = true) : Fun K x qual st f (PySem.W.fnOf x qual (defArgs st) (defBody st) (defScope st) .none kV doc pm an cdv ct) := ⟨⟨oc, od, kV, doc, pm, an, cdv, ct, osl, rfl, l, c⟩, k⟩
end
theorem hu_of {A : Around} {k : Nat} (hr : Room k A) : A.units + 1 < cLine := Nat.lt_of_le_of_lt (Nat.add_le_add_left (by decide : 1 ≤ 64) _) hr.units
theorem small1000 {n : Nat} (h : n ≤ 1000) : n < sizeLine := Nat.lt_of_le_of_lt h (by decide)

/-! ### expressions in short: the name that stands in the i-th slot -/
section
variable {X : Cx}
theorem pv (i : Nat) {x : Str} {pos : Pos} (hN : X.N[i]? = some x := by rfl) (hv : Vis X.env.scope x := by first | exact Or.inl rfl | exact Or.inr (Or.inl rfl) | exact Or.inr (Or.inr rfl)) (hd : (x == ("__debug__" : Str)) = false := by decide)
    (hcd : (x == ("__classdict__" : Str)) = false := by decide) : PE X (.Name x pos) (tVar i) := pe_var hN hv hd hcd
end

/-! ### tests -/
theorem iteF {A B : Prop} (h : B) : if false = true then A else B := by
  rw [if_neg Bool.false_ne_true]
  exact h
theorem iteT {A B : Prop} (h : A) : if true = true then A else B := by
  rw [if_pos rfl]
  exact h
theorem ite2 {c A B : Prop} [Decidable c] (h1 : c → A) (h2 : ¬ c → B) : if c then A else B := by
  by_cases h : c
  · rw [if_pos h]
    exact h1 h
  · rw [if_neg h]
    exact h2 h
theorem iteNS {c A B : Prop} [Decidable c] (hc : c) (h : B) : if (!decide c) = true then A else B := by
  rw [decide_eq_true hc]
  exact iteF h

/-! ### heaps -/
/-- all that was tracked is as it was -/
def Same (H H' : Hp) : Prop := ∀ b o, H b = some o → H' b = some o
theorem Same.refl (H : Hp) : Same H H := fun _ _ h => h
theorem Same.trans {H H1 H2 : Hp} (a : Same H H1) (b : Same H1 H2) : Same H H2 := fun c o h => b c o (a c o h)
theorem Same.free {H H' : Hp} (e : Same H H') {l : Addr} (h : H' l = Option.none) : H l = Option.none := by
  cases q : H l with
  | none => rfl
  | some o =>
    rw [e l o q] at h
    cases h
theorem Same.seq {K : PySem.W.Frag} {H H' : Hp} {a : Addr} {xs : List V} (e : Same H H') (h : SqL K H a xs) : SqL K H' a xs := by
  rcases h with (h | ⟨o, h⟩) | h
  · exact .inl (.inl (e _ _ h))
  · exact .inl (.inr ⟨o, e _ _ h⟩)
  · exact .inr h

/-! ### a dict's pairs: keys that differ -/
section
variable {κ : Type} [DecidableEq κ]
theorem dropK_pos {p : κ × V} {r : List (κ × V)} {k : κ} (e : p.1 = k) : dropK (p :: r) k = dropK r k := by
  unfold dropK
  rw [List.filter_cons, if_neg (by simp [e])]
theorem dropK_neg {p : κ × V} {r : List (κ × V)} {k : κ} (e : ¬ p.1 = k) : dropK (p :: r) k = p :: dropK r k := by
  unfold dropK
  rw [List.filter_cons, if_pos (by simp [e])]
theorem dropK_no : ∀ {kvs : List (κ × V)} {k : κ}, ¬ k ∈ kvs.map (·.1) → dropK kvs k = kvs
  | [], _, _ => rfl
  | p :: r, k, h => by
    have h' : ¬ k ∈ r.map (·.1) := fun m => by
      obtain ⟨q, hq, e⟩ := List.mem_map.mp m
      exact h (List.mem_map.mpr ⟨q, List.mem_cons.mpr (Or.inr hq), e⟩)
    rw [dropK_neg fun e => h (List.mem_map.mpr ⟨p, List.mem_cons.mpr (Or.inl rfl), e⟩), dropK_no h']
theorem dropK_mem {kvs : List (κ × V)} {k : κ} {p : κ × V} (h : p ∈ dropK kvs k) : p ∈ kvs := (List.mem_filter.mp h).1
end
end L2

set_option maxHeartbeats 4000000
/-! ### exceptions of one's own classes: raised, passed on, caught -/
namespace L2
open PySem PySem.Spec PyProof.Rows

/-- how an exception lies behind a call: it flies over B, which has all that is tracked and all that stood ahead but the callers' frames -/
def CXx (P : Program) (w : World) : CXT := fun outer H s E e s' => ∃ (ea : Addr) (cls a0 : Value) (B : Heap) (H' : Hp),
  e = .ref ea ∧ s'.os = s.os ∧ AllBare s'.gens ∧ Un (frs outer) [] H H' s.heap s'.heap ∧ HOk P w H' s'.heap ∧ Heap.FlyingW B outer ea cls a0 s'.heap ∧
  (∀ b u, H' b = some u → ∃ o, B.get? b = some o) ∧ (∀ b o, s.heap.get? b = some o → b ∉ frs outer → ∃ o', B.get? b = some o') ∧ E cls none H'

theorem HOk.by {P : Program} {w : World} {H : Hp} {h h' B : Heap} (x : HOk P w H h) (hB : ∀ b u, H b = some u → ∃ o, B.get? b = some o) (k1 : B.StaysIn h) (k2 : B.StaysIn h') : HOk P w H h' := fun a o e =>
  (x a o e).stay (fun b u hb q => by
    have ht : ∃ v, H b = some v := by
      rcases hb with rfl | hb
      · exact ⟨_, e⟩
      · exact ⟨_, hb⟩
    obtain ⟨v, hv⟩ := ht
    obtain ⟨o', eB⟩ := hB b v hv
    have := k1 b o' eB
    rw [q] at this; cases this
    exact k2 b _ eB) (fun _ q => q) fun _ _ q => q
theorem frs_cons {env : Env} {L : Addr} {l : List Env} (h : env.frame = some L) : frs (env :: l) = L :: frs l := by
  unfold frs
  rw [List.filterMap_cons, h]
section
variable {X : Cx} {pins : List (Addr × Obj)} {σ : St} {H : Hp} {s s' : Shared} {E : XK} {e : Value}
/-- a frame of a def -/
structure Own (X : Cx) : Prop where
  st : X.stack = X.env :: X.outer
  fr : X.env.frame = some X.env.locals
  ex : X.ex = []

theorem leave_on (O : Own X) (I : Inv X pins σ H s) (h : CXx X.prog X.w X.stack H s E e s') {E' : Value → Shared → Prop} :
    wpAny (model X.prog X.w) X.A (leaving X.env e) (fun _ s'' => CXx X.prog X.w X.outer X.H₀ X.s₀ E e s'') E' s' := by
  obtain ⟨ea, cls, a0, B, H', rfl, os, bare, un, hok, fl, hB1, hB2, he⟩ := h
  have hst := O.st
  have hfs : frs X.stack = X.env.locals :: frs X.outer := by rw [hst, frs_cons O.fr]
  have base0 : Un (frs X.outer) [] X.H₀ H X.s₀.heap s.heap := by
    have := I.base
    rw [O.ex] at this
    exact this
  have U0 : Un (frs X.stack) [] X.H₀ H' X.s₀.heap s'.heap := (base0.mono (fun b hb => by rw [hfs]; exact List.mem_cons_of_mem _ hb) (fun _ z => z)).trans un
  have nst : ∀ b o, X.s₀.heap.get? b = some o → b ∉ frs X.outer → b ∉ frs X.stack := fun b o q hb hm => by
    rw [hfs] at hm
    rcases List.mem_cons.mp hm with z | z
    · exact absurd (Nat.lt_of_lt_of_le (Heap.lt_size q) I.ok.above) (by rw [z]; exact Nat.lt_irrefl _)
    · exact hb z
  have inB : ∀ b o, X.s₀.heap.get? b = some o → b ∉ frs X.outer → ∃ o', B.get? b = some o' := fun b o q hb => by
    obtain ⟨o1, e1⟩ := base0.there b o q (by simp)
    exact hB2 b o1 e1 (nst b o q hb)
  refine wpAny_leaves_onW (L := X.env.locals) (by rw [I.ok.frames, hst]) O.fr (by rw [← hst]; exact fl) fun h' fl' sm => ?_
  have frm : ∀ b ∈ frs X.outer, ∃ o, s'.heap.get? b = some o ∧ ∀ vs, o.data ≠ .fields vs := fun b hb => by
    obtain ⟨_, o, ho, hd⟩ := fl.2.2.1.mem (show b ∈ X.stack.filterMap (·.frame) by
      have : b ∈ frs X.stack := by rw [hfs]; exact List.mem_cons_of_mem _ hb
      exact this)
    exact ⟨o, ho, hd⟩
  have U1 : Un (frs X.outer) [] X.H₀ H' X.s₀.heap h' := by
    refine ⟨fun b o q n hb hx => ?_, fun b o q n hb hx => ?_, U0.free, fun b o q hx => ?_, U0.tups, U0.frzs, U0.tbls⟩
    · obtain ⟨o', eB⟩ := inB b o q hb
      have e1 := U0.keep b o q n (nst b o q hb) hx
      have e2 := fl.1 b o' eB
      rw [e1] at e2; cases e2
      exact fl'.1 b _ eB
    · obtain ⟨sl, e1⟩ := U0.any q n hx
      obtain ⟨o2, e2, hd⟩ := frm b hb
      rw [e1] at e2; cases e2
      obtain ⟨sl2, e3⟩ := sm b _ e1 hd
      exact ⟨sl2, e3⟩
    · by_cases hb : b ∈ frs X.outer
      · obtain ⟨o2, e2, hd⟩ := frm b hb
        obtain ⟨sl2, e3⟩ := sm b _ e2 hd
        exact ⟨_, e3⟩
      · obtain ⟨o', eB⟩ := inB b o q hb
        exact ⟨o', fl'.1 b o' eB⟩
  exact ⟨ea, cls, a0, B, H', rfl, os.trans I.os, bare, U1, hok.by hB1 fl.1 fl'.1, fl', hB1, inB, he⟩
/-- a fresh exception leaves the frame that raised it -/
theorem leave_made (O : Own X) (I : Inv X pins σ H s) {ea : Addr} {cls : Value} {vs : List Value} {h1 : Heap} {tk : Nat} (hm : Heap.MadeExcOf s.heap h1 ea cls vs) (he : E cls none H) {E' : Value → Shared → Prop} :
    wpAny (model X.prog X.w) X.A (leaving X.env (.ref ea)) (fun _ s'' => CXx X.prog X.w X.outer X.H₀ X.s₀ E (.ref ea) s'') E' { s with heap := h1, toks := tk } := by
  have hst := O.st
  have hfs : frs X.stack = X.env.locals :: frs X.outer := by rw [hst, frs_cons O.fr]
  have base0 : Un (frs X.outer) [] X.H₀ H X.s₀.heap s.heap := by
    have := I.base
    rw [O.ex] at this
    exact this
  have hin : ∀ env ∈ (X.env :: X.outer), ∀ b, env.frame = some b → b ∈ (X.env :: X.outer).filterMap (·.frame) := fun env he b hb => List.mem_filterMap.mpr ⟨env, he, hb⟩
  have hS := I.stack
  rw [hst] at hS
  have nst : ∀ b o, X.s₀.heap.get? b = some o → b ∉ frs X.outer → b ∉ (X.env :: X.outer).filterMap (·.frame) := fun b o q hb hm => by
    have hm : b ∈ frs (X.env :: X.outer) := hm
    rw [frs_cons O.fr] at hm
    rcases List.mem_cons.mp hm with z | z
    · exact absurd (Nat.lt_of_lt_of_le (Heap.lt_size q) I.ok.above) (by rw [z]; exact Nat.lt_irrefl _)
    · exact hb z
  have keepB : ∀ b o, s.heap.get? b = some o → b ∉ (X.env :: X.outer).filterMap (·.frame) → (PySem.W.hideAll s.heap ((X.env :: X.outer).filterMap (·.frame))).get? b = some o := fun b o q hb => PySem.W.hideAll_get _ q hb
  refine wpAny_leaves_madeW (L := X.env.locals) (base := PySem.W.hideAll s.heap ((X.env :: X.outer).filterMap (·.frame))) (by rw [I.ok.frames, hst]) O.fr (fun b o q => PySem.W.of_hideAll _ q) (PySem.W.funFrames_hide hS hin) hm fun h' t fl' _ _ sm => ?_
  have trB : ∀ b u, H b = some u → ∃ o, (PySem.W.hideAll s.heap ((X.env :: X.outer).filterMap (·.frame))).get? b = some o := fun b u q => by
    obtain ⟨o, eo⟩ : ∃ o, s.heap.get? b = some o := by
      have := I.hok.lt q
      cases ho : s.heap.get? b with
      | some o => exact ⟨o, rfl⟩
      | none =>
        exfalso
        have x := I.hok b u q
        cases u with
        | lst xs => obtain ⟨_, _, _, _, e⟩ := x; rw [ho] at e; cases e
        | tup xs => obtain ⟨_, _, _, _, e, _⟩ := x; rw [ho] at e; cases e
        | dK kvs => obtain ⟨_, _, _, _, _, _, _, e, _⟩ := x; rw [ho] at e; cases e
        | dT kvs => obtain ⟨_, _, _, _, _, _, _, e, _⟩ := x; rw [ho] at e; cases e
        | set S n => obtain ⟨_, _, _, _, e, _⟩ := x; rw [ho] at e; cases e
        | ins C dx fs => obtain ⟨_, _, _, e, _⟩ := x; rw [ho] at e; cases e
        | own y => obtain ⟨_, e⟩ := x; rw [ho] at e; cases e
        | xd fs => obtain ⟨_, ⟨_, _, _, e, _⟩, _⟩ := x; rw [ho] at e; cases e
        | rng lo hi => obtain ⟨_, _, _, e⟩ := x; rw [ho] at e; cases e
        | frz ob u => obtain ⟨e, _⟩ := x; rw [ho] at e; cases e
        | tbl ps => have e : s.heap.get? b = some _ := x; rw [ho] at e; cases e
        | met f y => have e : s.heap.get? b = some _ := x; rw [ho] at e; cases e
        | ext φ => obtain ⟨_, ⟨_, e⟩, _⟩ := x; rw [ho] at e; cases e
    refine ⟨o, keepB b o eo fun hmem => ?_⟩
    have := I.stkFree b (by rw [hst]; exact hmem)
    rw [q] at this; cases this
  have inB : ∀ b o, X.s₀.heap.get? b = some o → b ∉ frs X.outer → ∃ o', (PySem.W.hideAll s.heap ((X.env :: X.outer).filterMap (·.frame))).get? b = some o' := fun b o q hb => by
    obtain ⟨o1, e1⟩ := base0.there b o q (by simp)
    exact ⟨o1, keepB b o1 e1 (nst b o q hb)⟩
  have frm : ∀ b ∈ frs X.outer, ∃ o, s.heap.get? b = some o ∧ ∀ vs, o.data ≠ .fields vs := fun b hb => by
    obtain ⟨_, o, ho, hd⟩ := hS.mem (show b ∈ (X.env :: X.outer).filterMap (·.frame) by
      have : b ∈ frs (X.env :: X.outer) := by rw [frs_cons O.fr]; exact List.mem_cons_of_mem _ hb
      exact this)
    exact ⟨o, ho, hd⟩
  have U1 : Un (frs X.outer) [] X.H₀ H X.s₀.heap h' := by
    refine ⟨fun b o q n hb hx => ?_, fun b o q n hb hx => ?_, base0.free, fun b o q hx => ?_, base0.tups, base0.frzs, base0.tbls⟩
    · exact fl'.1 b o (keepB b o (base0.keep b o q n hb hx) (nst b o q hb))
    · obtain ⟨sl, e1⟩ := base0.any q n hx
      obtain ⟨o2, e2, hd⟩ := frm b hb
      rw [e1] at e2; cases e2
      obtain ⟨sl2, e3⟩ := sm b _ (hm.keeps _ _ e1) hd
      exact ⟨sl2, e3⟩
    · by_cases hb : b ∈ frs X.outer
      · obtain ⟨o2, e2, hd⟩ := frm b hb
        obtain ⟨sl2, e3⟩ := sm b _ (hm.keeps _ _ e2) hd
        exact ⟨_, e3⟩
      · obtain ⟨o', eB⟩ := inB b o q hb
        exact ⟨o', fl'.1 b o' eB⟩
  exact ⟨ea, cls, _, _, H, rfl, I.os, I.bare, U1, I.hok.by trB (fun b o q => PySem.W.of_hideAll _ q) fl'.1, fl', trB, inB, he⟩
end

/-- an exception of a callee passes out of a def -/
theorem own_of {CX : CXT} {P : Program} {w : World} {K : PySem.W.Frag} {mg : Str → Option Value} {base : Heap} {N : List Str} {qual : Str} {scope : Scope} {f : Addr} {cd : Value} {A : Around} {outer : List Env} {s : Shared} {H : Hp} {E : XK} :
    Own (cxOf CX P w K mg base N qual scope f cd A outer s H E) := ⟨rfl, rfl, rfl⟩
theorem passX {P : Program} {w : World} {K : PySem.W.Frag} {mg : Str → Option Value} {base : Heap} {N : List Str} {qual : Str} {scope : Scope} {f : Addr} {cd : Value} {A : Around} {outer : List Env} {s₀ : Shared} {H₀ : Hp} {E : XK} :
    Passes (CXx P w) (cxOf (CXx P w) P w K mg base N qual scope f cd A outer s₀ H₀ E) E := fun _ _ _ _ _ _ I h => leave_on own_of I h

/-- a class of one's own over a built-in exception, as the top has made it -/
structure ExcC (K : PySem.W.Frag) (mg : Str → Option Value) (x : Str) (C : Addr) (bm : List Value) (newId : String) : Prop where
  at_ : mg x = some (.ref C)
  ex : PySem.W.excIn K C bm newId = true
section
variable {P : Program} {w : World} {K : PySem.W.Frag} {mg : Str → Option Value} {base : Heap} {N : List Str} {qual : Str} {scope : Scope} {f : Addr} {cd : Value} {A : Around} {outer : List Env} {s₀ : Shared} {H₀ : Hp} {E : XK}
theorem excObj {h : Heap} {C : Addr} {bm : List Value} {newId : String} (X : K.In h) (q : PySem.W.excIn K C bm newId = true) :
    ∃ tl N nm qn bs hdct sn sub ab col dd k0 k1 k2 k3 k5 mN, h.get? C = some (excClassObj nm qn C N bs tl hdct sn sub ab col dd k0 k1 k2 k3 k5 newId) ∧ h.Ns N mN ∧ mN "__init__" = none ∧ OwnTail h bm tl := by
  unfold PySem.W.excIn at q
  split at q
  case h_2 => cases q
  case h_1 dd cl sl ho =>
    split at q
    case h_2 => cases q
    case h_1 C' tl k0 k1 k2 k3 n k5 hm hs =>
      simp only [Bool.and_eq_true, beq_iff_eq, Bool.not_eq_true'] at q
      obtain ⟨⟨⟨⟨⟨rfl, rfl⟩, hdel⟩, ht⟩, hok⟩, hni⟩ := q
      obtain ⟨nm, bs, mro, ns, qn, hd, sn, sub, ab, col, del⟩ := cl
      dsimp only at hm hdel hok hni
      subst hm hdel
      obtain rfl : sl = #[k0, k1, k2, k3, some (.builtin n), k5] := by
        obtain ⟨l⟩ := sl
        simp only at hs
        rw [hs]
      exact ⟨tl, ns, nm, qn, bs, hd, sn, sub, ab, col, dd, k0, k1, k2, k3, k5, _, X _ _ ho, .of_isNs (PySem.W.isNs_of_in X hok), PySem.W.nsMap_none_of_in X hok hni, PySem.W.tail_of_in X ht⟩
/-- raise C('..') in a def -/
def tRaise (E : XK) (C : Addr) : TS := fun _ _ H => E (.ref C) none H
theorem ps_raise {x : Str} {C : Addr} {bm : List Value} {B newId initId : String} {msg : Str} {j : Nat} {np cpos pos p0 : Pos} (T : ExcC K mg x C bm newId) (FB : ExcBaseFacts B newId initId bm) (hh : A.handled = none)
    (hg : Gl (cxOf (CXx P w) P w K mg base N qual scope f cd A outer s₀ H₀ E) x) (hd : (x == ("__debug__" : Str)) = false := by decide) :
    PS (cxOf (CXx P w) P w K mg base N qual scope f cd A outer s₀ H₀ E) (.Raise (some (.Call (.Name x np) [.Constant (.str msg) j p0] [] cpos)) none pos) (tRaise E C) := by
  intro pins s σ H D I h
  obtain ⟨tl, N', nm, qn, bs, hdct, sn, sub, ab, col, dd, k0, k1, k2, k3, k5, mN, hC, hN, hni, TL⟩ := excObj I.kIn T.ex
  refine wpAny_Raise_call_subT (C := C) (nm := nm) (q := qn) (N := N') (bs := bs) (bm := tl) (hdct := hdct) (sn := sn) (sub := sub) (ab := ab) (col := col) (dd := dd) (k0 := k0) (k1 := k1) (k2 := k2) (k3 := k3) (k5 := k5)
    FB (mN := mN) (TL.hasType FB.hasBase) hh rfl hni (ld_glob I hg T.at_ ⟨rfl, ?_⟩ hd)
  refine Calls.evalArgs_plain (Calls.spliced_cons (Calls.Constant_str (pos := p0) (k := j) (Calls.spliced_nil ?_)))
  refine ⟨rfl, by rw [List.length_singleton, sizeLine_eq]; decide, hC, hN, TL, fun h' e hm => ?_⟩
  exact leave_made own_of (I.tok (s.toks + 1)) (tk := s.toks + 1) hm h
end
end L2

/-! ### try, except: a body that may raise, its handlers -/
namespace L2
open PySem PySem.Spec PyProof.Rows

/-- what has been raised in the body of a try: by a call made where the state was s, σ, H -/
def trX (X : Cx) (R : Value → St → Hp → Prop) (e : Value) (s' : Shared) : Prop :=
  ∃ (pins' : List (Addr × Obj)) (σ : St) (H : Hp) (s : Shared), Inv X pins' σ H s ∧ CXx X.prog X.w X.stack H s (fun cls _ H' => R cls σ H') e s'
/-- the context with further pins -/
abbrev Cx.pin (X : Cx) (pins : List (Addr × Obj)) : Cx := { X with pn := X.pn ++ pins }
/-- the context of a try's body -/
abbrev Cx.tr (X : Cx) (pins : List (Addr × Obj)) (R : Value → St → Hp → Prop) : Cx := { X with pn := X.pn ++ pins, xe := trX (X.pin pins) R }
/-- the context of an except suite -/
abbrev Cx.held (X : Cx) (ea : Addr) : Cx := { X with A := X.A.mark (some (.ref ea)), calm := false, xe := fun _ _ => False }

section
variable {X : Cx} {pins pins' : List (Addr × Obj)} {σ : St} {H : Hp} {s : Shared} {R : Value → St → Hp → Prop}
end

/-- an exception of class cls has been caught: s is the state, whose tracked part is H -/
structure Cau (X : Cx) (pins : List (Addr × Obj)) (σ : St) (H : Hp) (ea : Addr) (cls : Value) (s : Shared) : Prop where
  ex : ∃ (H1 : Hp) (s0 : Shared) (B : Heap) (a0 : Value), Inv X pins σ H1 s0 ∧ s.os = s0.os ∧ AllBare s.gens ∧ Un (frs X.stack) [] H1 H s0.heap s.heap ∧ HOk X.prog X.w H s.heap ∧ Heap.FlyingW B X.stack ea cls a0 s.heap ∧
    (∀ b u, H b = some u → ∃ o, B.get? b = some o) ∧ ∀ b o, s0.heap.get? b = some o → b ∉ frs X.stack → ∃ o', B.get? b = some o'


section
variable {X : Cx} {pins : List (Addr × Obj)} {σ : St} {H : Hp} {s : Shared} {ea : Addr} {cls : Value}
end

/-- what the handlers do with an exception of class cls -/
def PH (X : Cx) (hs : List ExceptHandler) (th : Value → TS) : Prop :=
  ∀ (pins : List (Addr × Obj)) (s : Shared) (σ : St) (H : Hp) (D : Ends) (ea : Addr) (cls : Value), Cau X pins σ H ea cls s → th cls D σ H → wpAny (model X.prog X.w) X.A (handleBy (.ref ea) X.env hs) (SP X pins D) X.xe s

/-- try: body, then the handlers; tb: the body's reading, for whatever is wanted of its exceptions -/
def tTry (tb : (Value → St → Hp → Prop) → TS) (th : Value → TS) : TS := fun D σ H => tb (fun cls σ' H' => th cls D σ' H') D σ H

/-- a suite without a name -/
def tHit (K : PySem.W.Frag) (C : Addr) (ts : TS) (tr : Value → TS) : Value → TS := fun cls D σ H => ∃ b, PySem.W.exmOne K cls (.ref C) = some b ∧ if b = true then ts D σ H else tr cls D σ H

/-- an exception object of the class at C -/
def excO (a C : Addr) : HO := .ext fun h => ∃ o vs, h.get? a = some o ∧ o.cls = .ref C ∧ o.data = .fields vs
section
variable {X : Cx} {pins : List (Addr × Obj)} {σ : St} {H : Hp} {s : Shared} {ea C : Addr}
end

/-- a suite with a name -/
def tHitAs (K : PySem.W.Frag) (C : Addr) (i : Nat) (ts : TS) (tr : Value → TS) : Value → TS := fun cls D σ H => ∃ b, PySem.W.exmOne K cls (.ref C) = some b ∧ if b = true then
    ∃ Cx, cls = .ref Cx ∧ ∀ ea, H ea = none → ts { nx := fun σ' H' => D.nx (σ'.set i none) H', rt := D.rt, bk := fun σ' H' => D.bk (σ'.set i none) H', ct := fun σ' H' => D.ct (σ'.set i none) H' } (σ.set i (some (.ref ea))) (upd H ea (excO ea Cx))
  else tr cls D σ H

/-! a call of a class in a try's body: what is wanted of its exceptions hangs on the names' values there -/
def PassS (CX : CXT) (X : Cx) (E : St → XK) : Prop := ∀ (pins : List (Addr × Obj)) (σ : St) (H : Hp) (s : Shared) (e : Value) (s' : Shared), Inv X pins σ H s → CX X.stack H s (E σ) e s' → X.xe e s'
def tMakeS (C : Addr) (sp : Sp) (E : St → XK) (t : TA) : TE := fun σ H Q => t σ H fun vs H1 => ∀ x dx, H1 x = none → H1 dx = none → dx ≠ x →
  sp (.ref x :: vs) (upd (upd H1 dx (.own x)) x (.ins C dx [])) (fun v H2 => v = .non ∧ Q (.ref x) H2) (E σ)
section
variable {X : Cx} {CX : CXT} {k : Nat} {f C : Addr} {fd : FuncData} {ps : List Str} {sp : Sp} {E : St → XK} {x : Str} {p pos : Pos} {e : Expr} {es : List Expr} {t : TA}
end
end L2

/-! ### isinstance of an exception of one's own class -/
namespace L2
open PySem PySem.Spec PyProof.Rows PySem.W Builtin Builtin.ObjectAttr Builtin.Getset_descriptor

/-- what is asked of the class of an exception -/
structure ExcA (K : Frag) (C : Addr) : Prop where
  ga : findIn K (.ref C) "__getattribute__" = some (some (.builtin "BaseException.__getattribute__"))
  gx : findIn K (.ref C) "__getattr__" = some none
  ca : findIn K (.ref C) "__class__" = some (some (.builtin "object.__class__"))
  cn : specialIn K (.builtin "object.__class__") "__get__" = some (some (.builtin "getset_descriptor.__get__"))
  ct : takesIn K (.builtin "object.__class__") = some true
  mo : mroIn K C (.type "object") = some true
  mb : mroIn K C (.type "BaseException") = some true
  cl : (clsIn K C).isSome = true

section
variable {K : Frag} {C x : Addr} {h : Heap} {M : Model}
variable {prog : Program} {w : World} {A : Around} {E : Value → Shared → Prop} {s : Shared}
end

/-- isinstance(error, C), isinstance(error, (C, D)) -/
def rIsi (K : Frag) : List V → Hp → VK → Prop := fun vs H Q => ∃ a C b, H a = some (excO a C) ∧ ExcA K C ∧ Q (.bl b) H ∧
  ((∃ D, vs = [.ref a, .ref D] ∧ kitOne K (.ref C) (.ref D) = some b) ∨ (∃ T, vs = [.ref a, .ty T] ∧ kitOne K (.ref C) (.type T) = some b) ∨
   ∃ (t : Addr) (ds : List Addr), vs = [.ref a, .ref t] ∧ H t = some (.tup (ds.map V.ref)) ∧ kitAny K (.ref C) (ds.map Value.ref) = some b)
end L2

/-! ### The sort of fewer than 64 items, as the tree of its questions: it puts them in order -/
namespace Sx
open PySem.W PyProof.Rows

/-- what the tree gives where the question (i, j) is answered by lt i j; each place asked lies below N -/
def Wp {α : Type} (N : Nat) (lt : Nat → Nat → Bool) : KasT α → (α → Prop) → Prop
  | .ret a, Q => Q a
  | .ask i j k, Q => i < N ∧ j < N ∧ Wp N lt (k (lt i j)) Q
theorem Wp.bind {α β : Type} {N : Nat} {lt : Nat → Nat → Bool} {f : α → KasT β} {Q : β → Prop} : ∀ (t : KasT α), Wp N lt t (fun a => Wp N lt (f a) Q) → Wp N lt (t.bind f) Q
  | .ret _, h => h
  | .ask _ _ k, ⟨h1, h2, h⟩ => ⟨h1, h2, Wp.bind (k _) h⟩

section
variable {O : KeyOrd} (key : Nat → O.α)
/-- the key at a place -/
def KP (p : Array Nat) (i : Nat) : O.α := key (p[i]?.getD 0)
def Up (p : Array Nat) (k : Nat) : Prop := ∀ i j, i ≤ j → j < k → O.kle (KP key p i) (KP key p j)
def Down (p : Array Nat) (k : Nat) : Prop := ∀ i j, i ≤ j → j < k → O.kle (KP key p j) (KP key p i)
def ltK (i j : Nat) : Bool := O.blt (key i) (key j)
/-- p is the numbers below N in some order -/
def PB (N : Nat) (p : Array Nat) : Prop := p.Perm (List.range N).toArray
end
theorem PB.size {N : Nat} {p : Array Nat} (h : PB N p) : p.size = N := by
  have := Array.Perm.size_eq h
  simpa using this
theorem PB.below {N : Nat} {p : Array Nat} (h : PB N p) {i : Nat} (hi : i < N) : p.getD i 0 < N := by
  have hs := h.size
  have hi' : i < p.size := by omega
  have e : p.getD i 0 = p[i] := by simp [Array.getD, hi']
  have hm : p[i] ∈ (List.range N).toArray := (Array.Perm.mem_iff h).mp (Array.getElem_mem hi')
  rw [e]
  simpa using hm
theorem getD_eq (p : Array Nat) (i : Nat) : p.getD i 0 = p[i]?.getD 0 := by simp
theorem PB.rev {N : Nat} {p : Array Nat} (h : PB N p) (i j : Nat) : PB N (kas_rev p i j) := (mirror_perm _ _ _ _).trans h
theorem PB.bub {N : Nat} {p : Array Nat} (h : PB N p) (i j : Nat) : PB N (bubble p i j) := (bubble_perm _ _ _).trans h

section
variable {O : KeyOrd} {key : Nat → O.α} {N : Nat} {p : Array Nat}
theorem KP_rev {i j : Nat} (hj : j ≤ p.size) (k : Nat) : KP key (kas_rev p i j) k = if i ≤ k ∧ k < j then KP key p (i + j - 1 - k) else KP key p k := by
  have e := getElem?_mirror_all (xs := p) (i := i) hj k
  unfold KP kas_rev
  rw [e]
  by_cases h : i ≤ k ∧ k < j
  · rw [if_pos h, if_pos h]
  · rw [if_neg h, if_neg h]
theorem KP_bub {src d : Nat} (hs : src < p.size) (hd : d ≤ src) (k : Nat) :
    KP key (bubble p src d) k = if k = src - d then KP key p src else if src - d < k ∧ k ≤ src then KP key p (k - 1) else KP key p k := by
  have e := getElem?_bubble hs d hd k
  unfold KP
  rw [e]
  by_cases h : k = src - d
  · rw [if_pos h, if_pos h]
  · rw [if_neg h, if_neg h]
    by_cases h2 : src - d < k ∧ k ≤ src
    · rw [if_pos h2, if_pos h2]
    · rw [if_neg h2, if_neg h2]
/-- a stretch of alike keys turned about stays -/
theorem KP_rev_alike {i j : Nat} (hj : j ≤ p.size) (he : ∀ k, i ≤ k → k < j → KP key p k = KP key p (j - 1)) (k : Nat) : KP key (kas_rev p i j) k = KP key p k := by
  rw [KP_rev hj]
  by_cases h : i ≤ k ∧ k < j
  · rw [if_pos h, he _ (by omega) (by omega), he k h.1 h.2]
  · rw [if_neg h]
theorem lt_true {i j : Nat} (h : ltK key (p.getD i 0) (p.getD j 0) = true) : O.klt (KP key p i) (KP key p j) := by
  rw [getD_eq, getD_eq] at h
  exact h
theorem lt_false {i j : Nat} (h : ltK key (p.getD i 0) (p.getD j 0) = false) : O.kle (KP key p j) (KP key p i) := by
  rw [getD_eq, getD_eq] at h
  exact h
theorem Up.grow {n : Nat} (h : Up key p n) (h1 : 1 ≤ n) (hn : O.kle (KP key p (n - 1)) (KP key p n)) : Up key p (n + 1) := fun i j hij hj => by
  by_cases e : j < n
  · exact h i j hij e
  · obtain rfl : j = n := by omega
    by_cases e2 : i = j
    · subst e2; exact KeyOrd.kle_refl _
    · exact KeyOrd.kle_trans (h i (j - 1) (by omega) (by omega)) hn
theorem Down.grow {n : Nat} (h : Down key p n) (h1 : 1 ≤ n) (hn : O.kle (KP key p n) (KP key p (n - 1))) : Down key p (n + 1) := fun i j hij hj => by
  by_cases e : j < n
  · exact h i j hij e
  · obtain rfl : j = n := by omega
    by_cases e2 : i = j
    · subst e2; exact KeyOrd.kle_refl _
    · exact KeyOrd.kle_trans hn (h i (j - 1) (by omega) (by omega))

theorem place_wp {k : Nat} {Q : Nat → Prop} (hp : PB N p) (hk : k < N) (hu : Up key p k) : ∀ (f l r : Nat), l ≤ r → r ≤ k → r - l ≤ f → (∀ i, i < l → O.kle (KP key p i) (KP key p k)) → (∀ i, r ≤ i → i < k → O.klt (KP key p k) (KP key p i)) →
    (∀ l, l ≤ k → (∀ i, i < l → O.kle (KP key p i) (KP key p k)) → (∀ i, l ≤ i → i < k → O.klt (KP key p k) (KP key p i)) → Q l) → Wp N (ltK key) (kas_place p k f l r) Q
  | 0, l, r, a, b, c, lo, hi, h => h l (by omega) lo (fun i x y => hi i (by omega) y)
  | f + 1, l, r, a, b, c, lo, hi, h => by
    unfold kas_place
    by_cases e : l ≥ r
    · rw [if_pos e]
      exact h l (by omega) lo (fun i x y => hi i (by omega) y)
    · rw [if_neg e]
      refine ⟨hp.below hk, hp.below (by omega), ?_⟩
      cases d : ltK key (p.getD k 0) (p.getD ((l + r) / 2) 0) with
      | true => exact place_wp hp hk hu f l ((l + r) / 2) (by omega) (by omega) (by omega) lo (fun i x y => KeyOrd.klt_of_klt_of_kle (lt_true d) (hu _ _ x y)) h
      | false => exact place_wp hp hk hu f ((l + r) / 2 + 1) r (by omega) b (by omega) (fun i x => KeyOrd.kle_trans (hu i ((l + r) / 2) (by omega) (by omega)) (lt_false d)) hi h
end
end Sx

/-! ### lists of tuples of ints: the order, the comparison, list.sort -/
namespace Sx
open PySem PySem.W PyProof.Rows

theorem lex_irr : ∀ a : List Int, HT.lexLt a a = false
  | [] => rfl
  | x :: xs => by rw [HT.lexLt_cons, if_pos rfl]; exact lex_irr xs
theorem lex_trans : ∀ a b c : List Int, HT.lexLt a b = true → HT.lexLt b c = true → HT.lexLt a c = true
  | [], _, [], h1, h2 => by
    rename_i b
    cases b with
    | nil => exact h1
    | cons y ys => rw [HT.lexLt_cons_nil] at h2; cases h2
  | [], _, _ :: _, _, _ => rfl
  | x :: xs, [], _, h1, _ => by rw [HT.lexLt_cons_nil] at h1; cases h1
  | x :: xs, y :: ys, [], _, h2 => by rw [HT.lexLt_cons_nil] at h2; cases h2
  | x :: xs, y :: ys, z :: zs, h1, h2 => by
    rw [HT.lexLt_cons] at h1 h2 ⊢
    by_cases e1 : x = y
    · subst e1
      rw [if_pos rfl] at h1
      by_cases e2 : x = z
      · rw [if_pos e2] at h2 ⊢
        exact lex_trans xs ys zs h1 h2
      · rw [if_neg e2] at h2 ⊢
        exact h2
    · rw [if_neg e1] at h1
      have l1 : x < y := of_decide_eq_true h1
      by_cases e2 : y = z
      · subst e2
        rw [if_neg e1]
        exact h1
      · rw [if_neg e2] at h2
        have l2 : y < z := of_decide_eq_true h2
        rw [if_neg (by omega)]
        exact decide_eq_true (by omega)
theorem lex_tot : ∀ a b : List Int, HT.lexLt a b = false → HT.lexLt b a = false → a = b
  | [], [], _, _ => rfl
  | [], _ :: _, h, _ => by rw [HT.lexLt_nil_cons] at h; cases h
  | _ :: _, [], _, h => by rw [HT.lexLt_nil_cons] at h; cases h
  | x :: xs, y :: ys, h1, h2 => by
    rw [HT.lexLt_cons] at h1 h2
    by_cases e : x = y
    · subst e
      rw [if_pos rfl] at h1 h2
      rw [lex_tot xs ys h1 h2]
    · rw [if_neg e] at h1
      rw [if_neg (Ne.symm e)] at h2
      have l1 : ¬ x < y := of_decide_eq_false h1
      have l2 : ¬ y < x := of_decide_eq_false h2
      omega
theorem lex_neg (a b c : List Int) (h : HT.lexLt a c = true) : HT.lexLt a b = true ∨ HT.lexLt b c = true := by
  cases e1 : HT.lexLt a b with
  | true => exact .inl rfl
  | false =>
    refine .inr ?_
    cases e2 : HT.lexLt b a with
    | true => exact lex_trans b a c e2 h
    | false =>
      have e := lex_tot a b e1 e2
      subst e
      exact h
/-- the order of tuples of ints -/
def lexO : KeyOrd where
  α := List Int
  blt := HT.lexLt
  irrefl := lex_irr
  trans := lex_trans
  negTrans := lex_neg
  total := lex_tot


section
variable {prog : Program} {w : World} {A : Around} {E : Value → Shared → Prop} {s : Shared}
/-- two tuples of ints compared as list.sort does -/
theorem kat_ints {b fin : Bool} {Q : Bool → Shared → Prop} : ∀ {vs us : List Value} {ns ms : List Int} (i : Nat), IntsAre vs ns → IntsAre us ms → fin = decide (ns.length < ms.length) → Q (HT.lexLt ns ms) s →
    KatLex prog w A b fin Q (vs.zip us) i s
  | _, _, _, _, i, .nil, .nil, e, h => by
    have e' : fin = false := e
    subst e'
    exact kat_nil h
  | _, _, _, _, i, .nil, .cons _ _ _, e, h => by
    have e' : fin = true := by rw [e]; exact decide_eq_true (by simp)
    subst e'
    exact kat_nil h
  | _, _, _, _, i, .cons _ _ _, .nil, e, h => by
    have e' : fin = false := by rw [e]; exact decide_eq_false (by simp)
    subst e'
    exact kat_nil h
  | _, _, _, _, i, .cons a t ha, .cons c u hc, e, h => by
    rw [List.zip_cons_cons]
    rw [HT.lexLt_cons] at h
    refine kat_cons (wpAny_eqBool_int (kat_go (fun q => ?_) fun q => ?_))
    · have ac : a = c := eq_of_beq q
      rw [if_pos ac] at h
      exact kat_yes (kat_ints (i + 1) ha hc (by rw [e]; simp) h)
    · have ac : ¬ a = c := by simpa using q
      rw [if_neg ac] at h
      refine kat_no ?_
      cases (b && i == 0) with
      | true => exact oneLt_int h
      | false => exact kat_one _ _ (PyProof.Rows.lt_int h)

/-- a tuple of ints stands at a -/
def TupI (h : Heap) (a : Addr) (t : List Int) : Prop := ∃ o its n, h.get? a = some o ∧ o.cls = .type "tuple" ∧ o.data = .seq its n ∧ IntsAre its.toList t
theorem TupI.keep {h h' : Heap} {a : Addr} {t : List Int} (x : TupI h a t) (k : ∀ o, h.get? a = some o → h'.get? a = some o) : TupI h' a t :=
  let ⟨o, its, n, e, r⟩ := x; ⟨o, its, n, k o e, r⟩
theorem lt_tups {x y : Addr} {b : Bool} {t u : List Int} {Q : Bool → Shared → Prop} (hx : TupI s.heap x t) (hy : TupI s.heap y u) (h : Q (HT.lexLt t u) s) : wpAny (model prog w) A (keyLt' (tuples' b) (.ref x) (.ref y)) Q E s := by
  obtain ⟨ox, xs, n, ex, _, dx, ix⟩ := hx
  obtain ⟨oy, ys, k, ey, _, dy, iy⟩ := hy
  refine kat_lt ex dx ey dy (kat_ints 0 ix iy ?_ h)
  rw [← ix.length, ← iy.length, Array.length_toList, Array.length_toList]
/-- the kind of keys that list.sort finds: tuples whose first items are ints -/
theorem kind_tups {rs : List Addr} {ts : List (List Int)} {Q : SortKind → Shared → Prop} (h2 : 0 < rs.length) (hp : Paired (fun r t => TupI s.heap r t ∧ t ≠ []) rs ts) (h : ∀ b, Q (tuples' b) s) :
    wpAny (model prog w) A (keyKind' (rs.map Value.ref).toArray) Q E s := by
  have all : ∃ fs : List Value, KatTups s.heap (rs.map Value.ref) fs ∧ fs.length = rs.length ∧ ∀ v ∈ fs, ∃ i t, v = Value.int i t := by
    clear h h2
    induction hp with
    | nil => exact ⟨[], trivial, rfl, fun v hv => nomatch hv⟩
    | @cons r t rs ts hr _ ih =>
      obtain ⟨fs, k1, k2, k3⟩ := ih
      obtain ⟨⟨o, its, n, e, c, d, ii⟩, hne⟩ := hr
      cases t with
      | nil => exact absurd rfl hne
      | cons i t =>
        generalize hL : its.toList = L at ii
        cases ii with
        | cons _ tk ii' =>
          have h0 : its[0]? = some (Value.int i tk) := by rw [← Array.getElem?_toList, hL]; rfl
          refine ⟨Value.int i tk :: fs, ⟨⟨r, o, its, n, rfl, e, c, d, h0⟩, k1⟩, by rw [List.length_cons, List.length_cons, k2], fun v hv => ?_⟩
          rcases List.mem_cons.mp hv with rfl | hv
          · exact ⟨i, tk, rfl⟩
          · exact k3 v hv
  obtain ⟨fs, k1, k2, k3⟩ := all
  refine kat_kind (T := .type "int") k1 (by omega) (fun v hv => ?_) (by decide) (h _)
  obtain ⟨i, tk, rfl⟩ := k3 v hv
  exact Looks.of_pure rfl

/-- what list.sort leaves: the addresses of the tuples in the order of the tuples -/
structure Sorted (rs : List Addr) (ts : List (List Int)) (rs' : List Addr) (ts' : List (List Int)) : Prop where
  perm : (rs'.zip ts').Perm (rs.zip ts)
  len : rs'.length = ts'.length
  ord : ts'.Pairwise fun a b => HT.lexLt b a = false
end
end Sx

namespace Sx
open PySem PySem.W PyProof.Rows
section
variable {prog : Program} {w : World} {A : Around} {E : Value → Shared → Prop} {s : Shared}
theorem pair_at {α β : Type} {F : α → β → Prop} : ∀ {l₁ : List α} {l₂ : List β} {i : Nat} {a : α}, Paired F l₁ l₂ → l₁[i]? = some a → ∃ b, l₂[i]? = some b ∧ F a b
  | _, _, _, _, .nil, e => by simp at e
  | _, _, 0, _, .cons h _, e => by simp at e; subst e; exact ⟨_, rfl, h⟩
  | _, _, i + 1, a, .cons _ t, e => by
    obtain ⟨b, h1, h2⟩ := pair_at (i := i) (a := a) t (by simpa using e)
    exact ⟨b, by simpa using h1, h2⟩
end
end Sx

/-! ### the keys of a dict, whatever they are, one after another -/
namespace Sx
open PySem PySem.W PySem.Calls PyProof.Rows
/-- a plain dict with these entries stands at d -/
def DictE (h : Heap) (d : Addr) (es : Array DictEntry) (ep : Nat) : Prop := ∃ o, h.get? d = some o ∧ o.ExactDict ∧ o.data = .dict es ep
theorem DictE.at {h h' : Heap} {d : Addr} {es : Array DictEntry} {ep : Nat} (x : DictE h d es ep) (k : ∀ o, h.get? d = some o → h'.get? d = some o) : DictE h' d es ep := let ⟨o, e, r⟩ := x; ⟨o, k o e, r⟩
theorem DictE.lt {h : Heap} {d : Addr} {es : Array DictEntry} {ep : Nat} (x : DictE h d es ep) : d < h.objs.size := let ⟨_, e, _⟩ := x; Heap.lt_size e
theorem DictE.ty {s : Shared} {d : Addr} {es : Array DictEntry} {ep : Nat} (x : DictE s.heap d es ep) : s.TypeIs (.ref d) "dict" := let ⟨o, e, c, _⟩ := x; ⟨o, e, c.1⟩
section
variable {prog : Program} {w : World} {A : Around} {E : Value → Shared → Prop} {s : Shared} {d it : Addr} {es : Array DictEntry} {ep i : Nat}
theorem iter_dictE {Q : Value → Shared → Prop} (lo : (d == sysModules) = false) (hm : DictE s.heap d es ep)
    (hQ : Q (.ref s.heap.objs.size) { s with heap := s.heap.push { cls := .type "dict_keyiterator", data := .fields #[.ref d, .int 0 0, .int es.size 0, .int ep 0] } }) : wpAny (model prog w) A (pyIter (.ref d)) Q E s := by
  obtain ⟨o, ho, hc, hd⟩ := id hm
  have T := hm.ty
  refine wpAny_pyIter_slot T F.slot_dict_iter (wpAny_call_entry F.slot_dict_iter T F.entry_dict_iter ?_ (F.args_dict_iter_1 _))
  unfold Builtin.«dict.__iter__» Builtin.Dict.dictSlotNone
  refine wpAny_bind (wpAny_bind (wpAny_notOrdered_dict T ?_))
  show wpAny _ _ (pure (Value.ref d)) _ _ s
  refine wpAny_pure ?_
  show wpAny _ _ (Builtin.Dict.showsAll d >>= _) _ _ s
  unfold Builtin.Dict.showsAll
  rw [if_neg (by rw [lo]; exact Bool.false_ne_true)]
  refine wpAny_bind (wpAny_pure (wpAny_bind (wpAny_dictEntries ho hd (wpAny_bind (wpAny_dictEpoch ho hd ?_)))))
  refine wpAny_bind (wpAny_newObj_type (wpAny_pure ⟨_, rfl, "dict_keyiterator", _, ⟨_, Heap.get?_push_size _ rfl, rfl⟩, F.slot_dict_keyiterator_next.lookup, ?_⟩))
  simpa [rawInt] using hQ
theorem next_dictE {Q : Option Value → Shared → Prop} {e : DictEntry} (hit : s.heap.IsKeyIter it d i es.size ep) (hm : DictE s.heap d es ep) (hx : es[i]? = some e)
    (hQ : ∀ h', h'.IsKeyIter it d (i + 1) es.size ep → Heap.SameBut it s.heap h' → Q (some e.key) { s with heap := h' }) : wpAny (model prog w) A (pyNext (.ref it)) Q E s := by
  obtain ⟨o, ho, hc, hd⟩ := id hit
  obtain ⟨od, hod, hcd, hdd⟩ := id hm
  obtain ⟨hlt, he⟩ := Array.getElem?_eq_some_iff.mp hx
  unfold pyNext
  refine wpAny_bind (wpAny_attempt (wpAny_callSpecial?_slot (name := Str.ofString "__next__") hit.typeIs F.slot_dict_keyiterator_next (wpAny_call_entry F.slot_dict_keyiterator_next hit.typeIs F.entry_dict_keyiterator_next ?_ (F.args_dict_keyiterator_next_1 _))))
  refine wpAny_bind (wpAny_pure (wpAny_bind (wpAny_bind ?_)))
  first | refine wpAny_bind (wpAny_typeNameOfWhole_keyiter hit.typeIs (wpAny_pure ?_)) | refine wpAny_bind (wpAny_typeNameOf_keyiter hit.typeIs (wpAny_pure ?_))
  refine wpAny_bind (wpAny_fieldsOf ho hd ?_)
  simp only [show Builtin.Dict_items.ownsTuple "dict_keyiterator" = false by decide, Bool.false_eq_true, if_false]
  show wpAny _ _ (if (Value.ref d == Value.none) = true then _ else _) _ _ s
  rw [if_neg (show ¬ ((Value.ref d == Value.none) = true) from Bool.false_ne_true)]
  refine wpAny_bind (wpAny_pure (wpAny_bind (wpAny_dictEntries hod hdd ?_)))
  rw [if_neg (by simp)]
  refine wpAny_bind (wpAny_pure (wpAny_bind (wpAny_dictEpoch hod hdd ?_)))
  rw [if_neg (by simp)]
  refine wpAny_pure ?_
  simp only [show ¬ ((i : Int) < 0) from by omega, if_false, Int.toNat_natCast, Array.getElem?_eq_getElem hlt]
  refine wpAny_bind ?_
  first | refine wpAny_bind (wpAny_typeNameOfWhole_keyiter hit.typeIs (wpAny_pure ?_)) | refine wpAny_bind (wpAny_typeNameOf_keyiter hit.typeIs (wpAny_pure ?_))
  refine wpAny_bind (wpAny_isOneOf_keyiter hit.typeIs ?_)
  show wpAny _ _ (setField (.ref it) 1 (rawInt ((i : Int) + 1)) >>= _) _ _ s
  refine wpAny_bind (wpAny_setField ho hd (by simp) ?_)
  have hit' : (s.heap.update it (Obj.mapFields (·.setIfInBounds 1 (rawInt ((i : Int) + 1))))).IsKeyIter it d (i + 1) es.size ep :=
    ⟨_, Heap.get?_update_self _ ho (Obj.isFreed_of_fields (Obj.data_mapFields hd _)), (Obj.cls_mapFields ..).trans hc, by rw [Obj.data_mapFields hd]; simp [rawInt]⟩
  refine wpAny_bind (wpAny_holding (wpAny_bind (wpAny_isOneOf_keyiter (s := { s with heap := s.heap.update it (Obj.mapFields (·.setIfInBounds 1 (rawInt ((i : Int) + 1)))) }) hit'.typeIs ?_)))
  show wpAny _ _ (pure es[i].key) _ _ _
  refine wpAny_pure (wpAny_pure ⟨_, rfl, wpAny_pure ?_⟩)
  rw [he]
  exact hQ _ hit' (Heap.SameBut.update ..)
theorem end_dictE {Q : Option Value → Shared → Prop} (hh : A.handled = none) (hit : s.heap.IsKeyIter it d i es.size ep) (hm : DictE s.heap d es ep) (hx : es.size ≤ i)
    (hQ : ∀ h', Heap.ExtBut it s.heap h' → Q none { s with heap := h' }) : wpAny (model prog w) A (pyNext (.ref it)) Q E s := by
  obtain ⟨o, ho, hc, hd⟩ := id hit
  obtain ⟨od, hod, hcd, hdd⟩ := id hm
  unfold pyNext
  refine wpAny_bind (wpAny_attempt (wpAny_callSpecial?_slot (name := Str.ofString "__next__") hit.typeIs F.slot_dict_keyiterator_next (wpAny_call_entry F.slot_dict_keyiterator_next hit.typeIs F.entry_dict_keyiterator_next ?_ (F.args_dict_keyiterator_next_1 _))))
  refine wpAny_bind (wpAny_pure (wpAny_bind (wpAny_bind ?_)))
  first | refine wpAny_bind (wpAny_typeNameOfWhole_keyiter hit.typeIs (wpAny_pure ?_)) | refine wpAny_bind (wpAny_typeNameOf_keyiter hit.typeIs (wpAny_pure ?_))
  refine wpAny_bind (wpAny_fieldsOf ho hd ?_)
  simp only [show Builtin.Dict_items.ownsTuple "dict_keyiterator" = false by decide, Bool.false_eq_true, if_false]
  show wpAny _ _ (if (Value.ref d == Value.none) = true then _ else _) _ _ s
  rw [if_neg (show ¬ ((Value.ref d == Value.none) = true) from Bool.false_ne_true)]
  refine wpAny_bind (wpAny_pure (wpAny_bind (wpAny_dictEntries hod hdd ?_)))
  rw [if_neg (by simp)]
  refine wpAny_bind (wpAny_pure (wpAny_bind (wpAny_dictEpoch hod hdd ?_)))
  rw [if_neg (by simp)]
  refine wpAny_pure ?_
  simp only [show ¬ ((i : Int) < 0) from by omega, if_false, Int.toNat_natCast, Array.getElem?_eq_none hx]
  refine wpAny_bind ?_
  first | refine wpAny_bind (wpAny_typeNameOfWhole_keyiter hit.typeIs (wpAny_pure ?_)) | refine wpAny_bind (wpAny_typeNameOf_keyiter hit.typeIs (wpAny_pure ?_))
  show wpAny _ _ (setField (.ref it) 0 .none >>= _) _ _ s
  refine wpAny_bind (wpAny_setField ho hd (by simp) ?_)
  show wpAny _ _ (newExc (.type "StopIteration") [] >>= _) _ _ _
  refine wpAny_bind ?_
  simp only [newExc, newTuple]
  refine wpAny_bind (wpAny_newObj_type ?_ (by size_fits))
  refine wpAny_bind (m := firstArgMember _ _) (wpAny_of_eq (a := Value.none) (by first | rfl | (simp only [firstArgMember]; rfl)) ?_)
  refine wpAny_newObj_type ?_ (by size_fits)
  simp only [raiseNew]
  refine wpAny_bind (wpAny_handled ?_)
  rw [show A.in1.handled = none from hh]
  refine wpAny_bind (wpAny_pure (wpAny_throw ?_))
  refine wpAny_bind (wpAny_isInstance (T := "StopIteration") (b := true) ⟨_, Heap.get?_push_size _ rfl, rfl⟩ isSubtype_stop ?_)
  exact wpAny_pure (hQ _ (((Heap.SameBut.update ..).extBut.push _).push _))
end
theorem walks_dictE {prog : Program} {w : World} {A : Around} (hh : A.handled = none) (I d : Addr) (hne : d ≠ I) (es : Array DictEntry) (ep : Nat) :
    Walks prog w A I [I, d] [I] es.size (fun i v => ∃ e, es[i]? = some e ∧ v = e.key) (fun i h => h.IsKeyIter I d i es.size ep ∧ DictE h d es ep) where
  sub := fun b hb => by simp at hb; simp [hb]
  frame := fun _ _ _ st hk => ⟨st.1.at fun o e => hk I (by simp) o e, st.2.at fun o e => hk d (by simp) o e⟩
  item := fun i s Q E hi st hQ => by
    refine next_dictE (e := es[i]) st.1 st.2 (by simp [hi]) fun h' hit' hs' => ?_
    exact hQ _ h' s.toks ⟨_, by simp [hi], rfl⟩ ⟨hit', st.2.at fun o e => hs'.extBut d o hne e⟩ fun b o hb e => hs'.extBut b o (fun h => hb (by simp [h])) e
  done := fun s Q E st hQ => end_dictE hh st.1 st.2 (Nat.le_refl _) fun h' he' => hQ h' s.toks fun b o hb e => he' b o (fun h => hb (by simp [h])) e
  self := fun _ _ _ _ st hQ => wpAny_pyIter_keyiter st.1 hQ
theorem src_dictE {prog : Program} {w : World} {d : Addr} {es : Array DictEntry} {ep : Nat} (lo : (d == sysModules) = false) :
    KdlSrc prog w "dict" d d es.size (fun i v => ∃ e, es[i]? = some e ∧ v = e.key) (fun h => DictE h d es ep) where
  type := fun _ hm => hm.ty
  there := fun _ hm => ⟨hm.lt, hm.lt⟩
  keep := fun _ _ hm hk => hm.at fun o e => hk d (.inl rfl) o e
  notList := by decide
  notTuple := by decide
  hint := fun _ _ _ _ hm hq => kdl_hint_dict hm.ty hq
  iter := fun _ _ hh hm => ⟨_, _, (fun _ _ hq => iter_dictE lo hm hq), walks_dictE hh _ d (Nat.ne_of_lt hm.lt) es ep, ⟨⟨_, Heap.get?_push_size _ rfl, rfl, rfl⟩, hm.at fun _ e => Heap.get?_push_of_some _ e⟩⟩
end Sx

/-! ### sorted(..) of a list of tuples of ints, of a dict whose keys are such -/
namespace L2
open PySem PySem.Spec PyProof.Rows
/-- tuples of ints, none empty -/
abbrev TupsH (H : Hp) (rs : List Addr) (ts : List (List Int)) : Prop := Paired (fun r t => H r = some (.tup (t.map V.int)) ∧ t ≠ []) rs ts
section
variable {X : Cx} {pins : List (Addr × Obj)} {σ : St} {H : Hp} {s : Shared}
theorem Inv.tupI (I : Inv X pins σ H s) {r : Addr} {t : List Int} (e : H r = some (.tup (t.map V.int))) : Sx.TupI s.heap r t := by
  obtain ⟨_, its, rv, o, h1, h2, n, h3⟩ := (show ObjOk X.prog X.w H s.heap r (.tup (t.map V.int)) from I.hok r _ e)
  exact ⟨o, its.toArray, n, h1, h2, h3, by simpa using intsAre_of rv⟩
theorem Inv.tupsI (I : Inv X pins σ H s) : ∀ {rs : List Addr} {ts : List (List Int)}, TupsH H rs ts → Paired (fun r t => Sx.TupI s.heap r t ∧ t ≠ []) rs ts
  | _, _, .nil => .nil
  | _, _, .cons h t => .cons ⟨I.tupI h.1, h.2⟩ (I.tupsI t)
theorem vals_refs : ∀ (rs : List Addr), Vals (rs.map V.ref) (rs.map Value.ref)
  | [] => .nil
  | _ :: r => .cons rfl (vals_refs r)
theorem refs_of : ∀ {rs : List Addr} {us : List Value}, Vals (rs.map V.ref) us → us = rs.map Value.ref
  | [], _, h => by rw [List.map_nil] at h; cases h; rfl
  | r :: rs, _, h => by
    rw [List.map_cons] at h
    cases h with
    | cons h1 h2 => rw [refs_of h2, List.map_cons]; cases h1; rfl
end
section
variable {X : Cx}
end
end L2

/-! ### the mathematics: a list of ties looked through, sorted lists -/
namespace Mt
def lo (a b : Int) : Int := if b < a then b else a
def hi (a b : Int) : Int := if b > a then b else a
abbrev Tri := Int × Int × Int
/-- an end is no point, or both are alike -/
def bad (m a b : Int) : Prop := a < 0 ∨ m ≤ a ∨ b < 0 ∨ m ≤ b ∨ a = b
instance (m a b : Int) : Decidable (bad m a b) := by unfold bad; infer_instance
def tri (t : Tri) : List Int := [t.1, t.2.1, t.2.2]
/-- the tie's ends, the lesser first, and its weight -/
def key (t : Tri) : List Int := [lo t.1 t.2.1, hi t.1 t.2.1]
def row (t : Tri) : List Int := key t ++ [t.2.2]
inductive Res | bad | twice | good
  deriving DecidableEq
/-- what becomes of a list of ties: seen are the keys ahead -/
def scan (m : Int) : List Tri → List (List Int) → Res
  | [], _ => .good
  | t :: r, seen => if bad m t.1 t.2.1 then .bad else if seen.any (fun k => decide (k = key t)) = true then .twice else scan m r (seen ++ [key t])
theorem scan_cons (m : Int) (t : Tri) (r : List Tri) (seen : List (List Int)) : scan m (t :: r) seen = if bad m t.1 t.2.1 then .bad else if seen.any (fun k => decide (k = key t)) = true then .twice else scan m r (seen ++ [key t]) := rfl
theorem scan_good {m : Int} : ∀ {T : List Tri} {seen : List (List Int)}, scan m T seen = .good → seen.Nodup → (seen ++ T.map key).Nodup ∧ ∀ t ∈ T, ¬ bad m t.1 t.2.1
  | [], seen, _, hn => ⟨by simpa using hn, fun t ht => nomatch ht⟩
  | t :: r, seen, h, hn => by
    unfold scan at h
    by_cases hb : bad m t.1 t.2.1
    · rw [if_pos hb] at h; cases h
    · rw [if_neg hb] at h
      by_cases hk : seen.any (fun k => decide (k = key t)) = true
      · rw [if_pos hk] at h; cases h
      · rw [if_neg hk] at h
        have hk' : key t ∉ seen := fun hm => hk (List.any_eq_true.mpr ⟨_, hm, decide_eq_true rfl⟩)
        have hn' : (seen ++ [key t]).Nodup := by
          rw [List.nodup_append]
          refine ⟨hn, by simp, fun a ha b hb' => ?_⟩
          rw [List.mem_singleton] at hb'
          subst hb'
          exact fun e => hk' (e ▸ ha)
        obtain ⟨h1, h2⟩ := scan_good h hn'
        refine ⟨by simpa using h1, fun u hu => ?_⟩
        rcases List.mem_cons.mp hu with rfl | hu
        · exact hb
        · exact h2 u hu

theorem key_range {m : Int} {t : Tri} (h : ¬ bad m t.1 t.2.1) : 0 ≤ lo t.1 t.2.1 ∧ lo t.1 t.2.1 < hi t.1 t.2.1 ∧ hi t.1 t.2.1 < m := by
  unfold bad at h
  unfold lo hi
  split <;> split <;> omega
end Mt

/-! ### list comprehensions of one clause -/
namespace L2
open PySem PySem.Spec PyProof.Rows

/-- the block of a comprehension: its own names, then the captured ones -/
def Xc (X : Cx) (pins : List (Addr × Obj)) (scope : Scope) (cl : List (Str × Addr)) (C : Addr) (N : List Str) (s : Shared) (H : Hp) (fp : List Addr) : Cx where
  prog := X.prog
  w := X.w
  K := X.K
  mg := X.mg
  base := X.base
  A := X.A
  N := N
  s₀ := s
  H₀ := H
  env := compEnvC scope cl C X.env
  outer := X.stack
  stack := X.stack
  ex := fp
  fn := fun x => (cl.lookup x).isNone
  calm := X.calm
  pn := X.pn ++ pins
  xe := fun _ _ => False

/-- the values at the block's entry: own names none, then those of the slots js -/
def σC (own : Nat) (js : List Nat) (σ : St) : St := List.replicate own none ++ js.map fun j => (σ[j]?).getD none

/-- what the reader must know of the text: the closure's cells, the captured names -/
structure Caps (X : Cx) (scope : Scope) (cl : List (Str × Addr)) (own caps : List Str) (js : List Nat) : Prop where
  clos : closureFor scope X.env = pure cl
  sub : ∀ x c, cl.lookup x = some c → X.env.cells.lookup x = some c
  kind : scope.kind = .function
  nocell : ∀ y ∈ scope.names, y.2 ≠ .cell
  names : ∀ y ∈ scope.names, y.2 = .local → scope.names.lookup y.1 = some .local
  has : ∀ x, ((relabel scope X.env).names.lookup x = some .cell ∨ (relabel scope X.env).names.lookup x = some .free) → ∃ c, cl.lookup x = some c
  capl : caps.length = js.length
  cap : ∀ (i : Nat) (x : Str), caps[i]? = some x → ∃ j : Nat, js[i]? = some j ∧ X.N[j]? = some x ∧ X.env.scope.names.lookup x = some .cell ∧ (cl.lookup x).isSome = true ∧ (relabel scope X.env).names.lookup x = some .cell

section
variable {X : Cx} {pins : List (Addr × Obj)} {σ : St} {H : Hp} {s : Shared} {scope : Scope} {cl : List (Str × Addr)} {own caps : List Str} {js : List Nat}

theorem Inv.offC {C : Addr} {h' : Heap} {t' : Nat} (I : Inv X pins σ H s) (f : FpOk X pins H C) (hs : Heap.SameBut C s.heap h') : Inv X pins σ H { s with heap := h', toks := t' } := by
  obtain ⟨f0, f1, f2, f3, f4, f5⟩ := f
  exact I.turned (fun b o hb e => (hs.2 b hb).trans e) f0 f1 f3 f4 f5

/-- the block's context is sound -/
theorem xc_ok {fp : List Addr} {C : Addr} {H1 : Hp} (I : Inv X pins σ H1 s) (K : Caps X scope cl own caps js) (hC : s.heap.objs.size ≤ C) (hf : ∀ b ∈ fp, FpOk X pins H1 b) (ho : ∀ b ∈ fp, ∃ o, s.heap.get? b = some o) :
    (Xc X pins scope cl C (own ++ caps) s H1 fp).Ok := by
  refine ⟨I.ok.mod, K.kind, I.ok.glob, I.ok.blt, hC, fun x y c h1 h2 => I.ok.inj x y c (K.sub x c h1) (K.sub y c h2), fun x hx => K.has x hx, fun x c h1 h2 => ?_, I.ok.hd, I.ok.frames, .inl rfl, fun b hb => ?_, I.bs, Nat.le_trans I.ok.bsz I.sz, fun b o e hb => ?_, fun b hb hm => ?_, I.stack, I.stkFree⟩
  · have h1 : (cl.lookup x).isNone = true := h1
    have h2 : cl.lookup x = some c := h2
    rw [h2] at h1; cases h1
  · obtain ⟨o, e⟩ := ho b hb
    refine ⟨fun z => ?_, fun x c h z => (hf b hb).2.2.2.2.1 x c (K.sub x c h) z⟩
    have : b < C := Nat.lt_of_lt_of_le (Heap.lt_size e) hC
    rw [z] at this
    exact absurd this (Nat.lt_irrefl _)
  · rcases (hf b hb).2.2.2.1 with z | z
    · exact I.ok.noex b o e z
    · exact absurd (Nat.lt_of_lt_of_le (Heap.lt_size e) (Nat.le_trans I.ok.bsz z)) (Nat.lt_irrefl _)
  · rcases List.mem_cons.mp (I.stkSub b hm) with z | z
    · exact (hf b hb).2.1 z
    · exact (hf b hb).2.2.1 z
/-- the block's state at its entry -/
theorem xc_inv {fp : List Addr} {D C : Addr} {H1 : Hp} {s4 : Shared} {mC : Str → Option Value} (I : Inv X pins σ H1 s) (K : Caps X scope cl own caps js) (hC : s.heap.objs.size ≤ C) (hD : s.heap.objs.size ≤ D) (hDC : D ≠ C)
    (hf : ∀ b ∈ fp, FpOk X pins H1 b) (ho : ∀ b ∈ fp, ∃ o, s.heap.get? b = some o) (h4 : ∃ h' tk, s4 = { s with heap := h', toks := tk }) (k4 : ∀ b o, s.heap.get? b = some o → s4.heap.get? b = some o) (hn : s4.heap.Ns C mC)
    (hl : s4.heap.get? D = some { cls := .type "list", data := .seq #[] 0 }) : Inv (Xc X pins scope cl C (own ++ caps) s H1 fp) [] (σC own.length js σ) (upd H1 D (.lst [])) s4 := by
  obtain ⟨h', tk, rfl⟩ := h4
  have hfr : H1 D = none := I.hok.fresh hD
  have hlen : (σC own.length js σ).length = (own ++ caps).length := by
    unfold σC
    rw [List.length_append, List.length_append, List.length_replicate, List.length_map, K.capl]
  have celK : ∀ c v, s.heap.IsCell c v → h'.IsCell c v := fun c v ⟨o, e, d⟩ => ⟨o, k4 c o e, d⟩
  have cold : ∀ x c, cl.lookup x = some c → c < s.heap.objs.size := fun x c e => by
    obtain ⟨v, z⟩ := I.cell x c (K.sub x c e)
    exact z.lt
  refine ⟨xc_ok I K hC hf ho, rfl, I.bare, Un.laid k4 hD hfr, ⟨mC, hn, fun i x v e1 e2 e3 => ?_⟩, fun x c e => ?_, ?_, fun x c e => ?_, fun p hp => ?_, I.hok.laid k4 hD ?_, hlen⟩
  · have hi : own.length ≤ i := by
      by_cases hi : i < own.length
      · exfalso
        unfold σC at e2
        rw [List.getElem?_append_left (by rw [List.length_replicate]; exact hi), List.getElem?_replicate, if_pos hi] at e2
        cases e2
      · omega
    obtain ⟨k, rfl⟩ : ∃ k, i = own.length + k := ⟨i - own.length, by omega⟩
    have e1 : (own ++ caps)[own.length + k]? = some x := e1
    rw [List.getElem?_append_right (by omega), Nat.add_sub_cancel_left] at e1
    obtain ⟨j, j1, j2, j3, j4, j5⟩ := K.cap k x e1
    unfold σC at e2
    rw [List.getElem?_append_right (by rw [List.length_replicate]; omega), List.length_replicate, Nat.add_sub_cancel_left, List.getElem?_map, j1] at e2
    have e2 : (σ[j]?).getD none = some v := Option.some.inj e2
    have e4 : σ[j]? = some (some v) := by
      cases q : σ[j]? with
      | none => rw [q] at e2; cases e2
      | some y => rw [q] at e2; exact congrArg some e2
    obtain ⟨m, _, hl'⟩ := I.loc
    obtain ⟨u, ru, lk⟩ := hl' j x v j2 e4 (.inr (.inl j3))
    refine ⟨u, ru, ?_⟩
    rcases lk with ⟨hk, _⟩ | ⟨_, c, hc, hcell⟩
    · have hk : X.env.scope.names.lookup x = some .local := hk
      rw [j3] at hk; cases hk
    · obtain ⟨c', hc'⟩ := Option.isSome_iff_exists.mp j4
      have := K.sub x c' hc'
      rw [hc] at this; cases this
      exact .inr ⟨.inl j5, c, hc', celK _ _ hcell⟩
  · obtain ⟨v, z⟩ := I.cell x c (K.sub x c e)
    exact ⟨v, celK _ _ z⟩
  · show upd H1 D (.lst []) C = none
    rw [upd_ne (Ne.symm hDC)]
    exact I.hok.fresh hC
  · rw [upd_ne (Nat.ne_of_lt (Nat.lt_of_lt_of_le (cold x c e) hD))]
    exact I.freeC x c (K.sub x c e)
  · have hp : p ∈ X.pn ++ pins := by
      have : p ∈ (X.pn ++ pins) ++ [] := hp
      simpa using this
    obtain ⟨e, n, ne, nf, d⟩ := I.pin p hp
    have hlt := Heap.lt_size e
    refine ⟨k4 _ _ e, by rw [upd_ne (Nat.ne_of_lt (Nat.lt_of_lt_of_le hlt hD))]; exact n, Nat.ne_of_lt (Nat.lt_of_lt_of_le hlt hC), fun hm => ?_, d⟩
    rcases List.mem_cons.mp (I.stkSub _ hm) with z | z
    · exact ne z
    · exact nf z
  · exact ⟨Nat.zero_le _, [], 0, .nil, hl⟩
/-- behind the block -/
theorem xc_back {fp : List Addr} {C : Addr} {N : List Str} {H1 H' : Hp} {σ' : St} {pl : List (Addr × Obj)} {s' : Shared} (I : Inv X pins σ H1 s) (hf : ∀ b ∈ fp, FpOk X pins H1 b) (J : Inv (Xc X pins scope cl C N s H1 fp) pl σ' H' s') : Inv X pins σ H' s' :=
  I.call' J.os J.base J.hok J.bare fun b hb => ⟨(hf b hb).2.2.2.1, (hf b hb).2.1, (hf b hb).2.2.2.2.1, (hf b hb).2.2.2.2.2⟩
end

/-- a turn: the target, the tests, the element; W is the invariant: turn, measure, items so far, names, heap -/
def tTurns (J : It) (g : TG) (tt : TT) (te : TE) (σ0 : St) (D : Addr) (Qd : Hp → Prop) (H1 : Hp) : Prop :=
  ∃ W : Nat → Nat → List V → St → Hp → Prop, (∃ m, W 0 m [] σ0 (upd H1 D (.lst []))) ∧ ∀ i m ys σ1 H2, W i m ys σ1 H2 → H2 D = some (.lst ys) ∧
    ((J.stop i H2 ∧ Qd H2) ∨ (J.go i H2 ∧ ys.length < sizeLine ∧ ∀ x H3, J.yld i H2 x H3 → g x σ1 H3 fun σ2 H4 => tt σ2 H4 fun c H5 =>
      if c = true then te σ2 H5 fun y H6 => H6 D = some (.lst ys) ∧ ∃ m', m' < m ∧ W (i + 1) m' (ys ++ [y]) σ2 (upd H6 D (.lst (ys ++ [y]))) else ∃ m', m' < m ∧ W (i + 1) m' ys σ2 H5))
/-- the tests of a clause -/
def PTs (X : Cx) (ifs : List Expr) (t : TT) : Prop :=
  ∀ (pins : List (Addr × Obj)) (s : Shared) (σ : St) (H : Hp) (Q : Bool → Hp → Prop), Inv X pins σ H s → t σ H Q →
    wpAny (model X.prog X.w) X.A (forIn ifs true fun c r => if r = true then do let ok ← isTrue c X.env (eval c X.env); pure (ForInStep.yield ok) else pure (ForInStep.yield r)) (TP X pins σ Q) X.xe s
def tYes : TT := fun _ H Q => Q true H
theorem pts_nil {X : Cx} : PTs X [] tYes := fun _ _ _ H _ I h => wpAny_tests_nil ⟨H, I, h⟩
theorem pts_one {X : Cx} {c : Expr} {t : TT} (h : PT X c t) : PTs X [c] t := fun pins s σ H Q I hw => wpAny_tests_one (h pins s σ H Q I hw)

section
variable {X : Cx} {pins : List (Addr × Obj)} {σ : St} {H : Hp} {s : Shared} {scope : Scope} {cl : List (Str × Addr)} {own caps : List Str} {js : List Nat}
variable {tg iter elt : Expr} {ifs : List Expr} {pos : Pos} {g : TG} {tt : TT} {te : TE}
/-- the turns of a comprehension -/
theorem comp_loop {J : It} {fp : List Addr} {it D C : Addr} {tn : Nat → Heap → Prop} {H1 : Hp} {σ0 : St} {Qd : Hp → Prop} {RR : Result → Shared → Prop} {s4 : Shared}
    (hc : X.calm = true) (T : Turn X.prog X.w X.K tg J fp it tn)
    (hg : PG (Xc X pins scope cl C (own ++ caps) s H1 fp) tg g) (ht : PTs (Xc X pins scope cl C (own ++ caps) s H1 fp) ifs tt) (he : PE (Xc X pins scope cl C (own ++ caps) s H1 fp) elt te)
    (hf : ∀ b ∈ fp, FpOk X pins H1 b)
    (J0 : Inv (Xc X pins scope cl C (own ++ caps) s H1 fp) [] σ0 (upd H1 D (.lst [])) s4) (st0 : tn 0 s4.heap) (hfD : ∀ b ∈ fp, b ≠ D)
    (turns : tTurns J g tt te σ0 D Qd H1)
    (fin : ∀ σ' H' s', Inv (Xc X pins scope cl C (own ++ caps) s H1 fp) [] σ' H' s' → Qd H' → RR (.ok .next) s') :
    codeAny (model X.prog X.w) X.A (.compLoop (.ListComp elt [⟨tg, iter, ifs, 0⟩] scope pos) 0 (.ref it) (.ref D) (compEnvC scope cl C X.env)) RR s4 := by
  obtain ⟨W, ⟨m0, w0⟩, turn⟩ := turns
  have stat : ∀ {H' : Hp}, (∀ b ∈ fp, H' b = none) → ∀ b ∈ fp, FpOk (Xc X pins scope cl C (own ++ caps) s H1 fp) [] H' b := fun {H'} hn b hb => by
    refine ⟨hn b hb, (J0.ok.exf b hb).1, J0.ok.exfs b hb, .inl hb, fun x c e => (J0.ok.exf b hb).2 x c e, fun p hp => ?_⟩
    have hp : p ∈ X.pn ++ pins := by
      have : p ∈ (X.pn ++ pins) ++ [] := hp
      simpa using this
    exact (hf b hb).2.2.2.2.2 p hp
  refine codeAny_loop rfl (fun n s' => ∃ i ys σ' H', Inv (Xc X pins scope cl C (own ++ caps) s H1 fp) [] σ' H' s' ∧ tn i s'.heap ∧ (∀ b ∈ fp, H' b = none) ∧ W i n ys σ' H') (fun n s' hI => ?_) m0
    ⟨0, [], _, _, J0, st0, fun b hb => by rw [upd_ne (hfD b hb)]; exact (hf b hb).1, w0⟩
  obtain ⟨i, ys, σ2, H2, I2, st, fr, w2⟩ := hI
  show wpAny _ X.A ((compTurn (.ListComp elt [⟨tg, iter, ifs, 0⟩] scope pos) 0 (.ref it) (.ref D) (compEnvC scope cl C X.env)).onRaise (fun x => do noteFrame x (compEnvC scope cl C X.env); theTreesLotGoes x)) _ _ s'
  refine wpAny_noted (wpAny_noRaise ?_)
  rw [compTurn_list]
  obtain ⟨hD, alt⟩ := turn i n ys σ2 H2 w2
  rcases alt with ⟨stop, qd⟩ | ⟨go, hz, step⟩
  · refine wpAny_bind (wpAny_standAt (wpAny_bind (thn (T.done (Xc X pins scope cl C (own ++ caps) s H1 fp) rfl rfl rfl hc i [] s' σ2 H2 (fun _ _ => False) I2 (stat fr) st stop) fun r s5 ⟨hr, I5⟩ => ?_)))
    subst hr
    exact wpAny_pure (fin _ _ _ I5 qd)
  · refine wpAny_bind (wpAny_standAt (wpAny_bind (thn (T.item (Xc X pins scope cl C (own ++ caps) s H1 fp) rfl rfl rfl hc i [] s' σ2 H2 (fun _ _ => False) I2 (stat fr) st go) fun r s5 ⟨u, hr, h5⟩ => ?_)))
    subst hr
    refine wpAny_bind (thn h5 fun _ s6 ⟨x, H6, I6, r6, y6, st6, fr6⟩ => ?_)
    have I6' := I6.pinned (stat fr6) (T.obj _ _ st6)
    refine wpAny_bind (thn (hg _ s6 σ2 H6 x u _ I6' r6 (step x H6 y6)) fun _ s7 ⟨σ7, H7, I7, q7⟩ => ?_)
    refine wpAny_bind (thn (ht _ s7 σ7 H7 _ I7 q7) fun ok s8 ⟨H8, I8, q8⟩ => ?_)
    have again : ∀ {H9 : Hp} {ys' : List V} {m : Nat} {s9 : Shared}, Inv (Xc X pins scope cl C (own ++ caps) s H1 fp) ([] ++ pinsAt fp s6.heap) σ7 H9 s9 → m < n → W (i + 1) m ys' σ7 H9 →
        ∃ m, m < n ∧ ∃ i ys σ' H', Inv (Xc X pins scope cl C (own ++ caps) s H1 fp) [] σ' H' s9 ∧ tn i s9.heap ∧ (∀ b ∈ fp, H' b = none) ∧ W i m ys σ' H' := fun {H9 ys' m s9} I9 hm w9 => by
      refine ⟨m, hm, i + 1, ys', σ7, H9, I9.unpinned, T.keep _ _ _ st6 fun b hb o e => (I9.pin (b, o) (List.mem_append_right _ (List.mem_append_right _ (mem_pinsAt hb e)))).1, fun b hb => ?_, w9⟩
      obtain ⟨o, e, _⟩ := T.obj _ _ st6 b hb
      exact (I9.pin (b, o) (List.mem_append_right _ (List.mem_append_right _ (mem_pinsAt hb e)))).2.1
    cases ok with
    | false =>
      rw [if_neg Bool.false_ne_true] at q8
      obtain ⟨m, hm, w8⟩ := q8
      exact wpAny_pure ⟨rfl, again I8 hm w8⟩
    | true =>
      rw [if_pos rfl] at q8
      refine wpAny_bind (wpAny_bind (thn (he _ s8 σ7 H8 _ I8 q8) fun y s9 ⟨yv, H9, I9, r9, hD9, m, hm, w9⟩ => ?_))
      refine wpAny_bind (thn (mt_append _ s9 σ7 H9 (.ref D) [yv] (.ref D) [y] (fun _ H10 => H10 = upd H9 D (.lst (ys ++ [yv]))) I9 rfl (.cons r9 .nil) ⟨D, ys, yv, rfl, rfl, hD9, hz, rfl⟩) fun _ s10 ⟨_, H10, I10, _, e10⟩ => ?_)
      subst e10
      exact wpAny_pure (wpAny_pure ⟨rfl, again I10 hm w9⟩)
/-- the block: the new list, the block's names, the turns -/
theorem comp_block {J : It} {fp : List Addr} {it : Addr} {tn : Nat → Heap → Prop} {H1 : Hp} {Qd : Addr → Hp → Prop} {RR : Value → Addr → Result → Shared → Prop} {E : Value → Shared → Prop}
    (hc : X.calm = true) (I : Inv X pins σ H1 s) (K : Caps X scope cl own caps js) (T : Turn X.prog X.w X.K tg J fp it tn) (st0 : tn 0 s.heap) (hf : ∀ b ∈ fp, FpOk X pins H1 b)
    (hg : ∀ C, PG (Xc X pins scope cl C (own ++ caps) s H1 fp) tg g) (ht : ∀ C, PTs (Xc X pins scope cl C (own ++ caps) s H1 fp) ifs tt) (he : ∀ C, PE (Xc X pins scope cl C (own ++ caps) s H1 fp) elt te)
    (turns : ∀ D, H1 D = none → tTurns J g tt te (σC own.length js σ) D (Qd D) H1)
    (fin : ∀ D C H' s', Inv X pins σ H' s' → FpOk X pins H' C → (∃ m, s'.heap.Ns C m) → Qd D H' → RR (.ref D) C (.ok .next) s') :
    wpAny (model X.prog X.w) X.A (newList []) (fun acc s₃ => wpAny (model X.prog X.w) X.A (newFunctionEnv scope X.env.globals cl [] X.env.qual none .none (some X.env)) (fun cenv s₄ =>
      codeAny (model X.prog X.w) X.A (.compStart (.ListComp elt [⟨tg, iter, ifs, 0⟩] scope pos) 0 (.ref it) acc { cenv with scope := relabel scope X.env }) (RR acc cenv.locals) s₄) E s₃) E s := by
  have hold : ∀ b ∈ fp, ∃ o, s.heap.get? b = some o := fun b hb => let ⟨o, e, _⟩ := T.obj 0 _ st0 b hb; ⟨o, e⟩
  refine wpAny_newObj_type (wpAny_newFunctionEnv K.nocell (by intro y hy; simp at hy) (fun h₁ hns₁ hsb₁ => ?_) K.kind)
  dsimp only at hns₁ hsb₁ ⊢
  generalize hH2 : s.heap.push { cls := .type "list", dict := none, data := .seq ([] : List Value).toArray } = H2 at hns₁ hsb₁ ⊢
  have hsz : H2.objs.size = s.heap.objs.size + 1 := by rw [← hH2, Heap.size_push]
  have k4 : ∀ b o, s.heap.get? b = some o → h₁.get? b = some o := fun b o e => by
    have hlt := Heap.lt_size e
    refine (hsb₁.2 b (Nat.ne_of_lt (hsz ▸ Nat.lt_succ_of_lt hlt))).trans (Heap.get?_push_of_some _ ?_)
    rw [← hH2]
    exact Heap.get?_push_of_some _ e
  have hlist : h₁.get? s.heap.objs.size = some { cls := .type "list", data := .seq #[] 0 } := by
    refine (hsb₁.2 _ (Nat.ne_of_lt (hsz ▸ Nat.lt_succ_self _))).trans (Heap.get?_push_of_some _ ?_)
    rw [← hH2]
    exact Heap.get?_push_size _ rfl
  have hfr : H1 s.heap.objs.size = none := I.hok.fresh (Nat.le_refl _)
  have J0 := xc_inv (C := H2.objs.size) (D := s.heap.objs.size) (s4 := { s with heap := h₁, toks := s.toks + ([] : List (Str × Value)).length }) I K (hsz ▸ Nat.le_succ _) (Nat.le_refl _) (Nat.ne_of_lt (hsz ▸ Nat.lt_succ_self _)) hf hold ⟨_, _, rfl⟩ k4 hns₁ hlist
  have hfD : ∀ b ∈ fp, b ≠ s.heap.objs.size := fun b hb z => by
    obtain ⟨o, e⟩ := hold b hb
    have hlt := Heap.lt_size e
    rw [z] at hlt
    exact absurd hlt (Nat.lt_irrefl _)
  have st1 : tn 0 h₁ := T.keep 0 _ _ st0 fun b hb o e => k4 b o e
  have loop : ∀ s₃ : Shared, s₃ = { s with heap := h₁, toks := s.toks + ([] : List (Str × Value)).length } →
      codeAny (model X.prog X.w) X.A (.compLoop (.ListComp elt [⟨tg, iter, ifs, 0⟩] scope pos) 0 (.ref it) (.ref s.heap.objs.size) (compEnvC scope cl H2.objs.size X.env)) (RR (.ref s.heap.objs.size) H2.objs.size) s₃ := by
    rintro s₃ rfl
    refine comp_loop hc T (hg _) (ht _) (he _) hf J0 st1 hfD (turns _ hfr) fun σ' H' s' J' qd => ?_
    have hC : H' H2.objs.size = none := J'.free
    obtain ⟨m, hn, _⟩ := J'.loc
    exact fin _ _ _ _ (xc_back I hf J') (I.fpOk (by omega) hC) ⟨m, hn⟩ qd
  exact codeAny_compStart_list (loop _ rfl) (T.self _ 0 _ _ _ st1 (loop _ rfl))

/-- [elt for tg in iter if ..] -/
def tComp (wi : TI) (g : TG) (tt : TT) (te : TE) (own : Nat) (js : List Nat) : TE := fun σ H Q => wi σ H fun J H1 => ∀ D, H1 D = none → tTurns J g tt te (σC own js σ) D (fun H' => Q (.ref D) H') H1
theorem pe_comp {wi : TI} (hc : X.calm = true) (K : Caps X scope cl own caps js) (hi : PI X tg iter wi)
    (hg : ∀ pins C s H1 fp, PG (Xc X pins scope cl C (own ++ caps) s H1 fp) tg g) (ht : ∀ pins C s H1 fp, PTs (Xc X pins scope cl C (own ++ caps) s H1 fp) ifs tt) (he : ∀ pins C s H1 fp, PE (Xc X pins scope cl C (own ++ caps) s H1 fp) elt te)
    (hs : ∀ x, foldedSetIterable iter X.env x = pure x := by intro _; rfl) : PE X (.ListComp elt [⟨tg, iter, ifs, 0⟩] scope pos) (tComp wi g tt te own.length js) := by
  intro pins s σ H Q I h
  rw [eval_ListComp]
  refine wpAny_comprehension_free (use := none) rfl hs K.clos K.kind K.names (thn (hi pins s σ H _ I h) fun v s1 h1 => thn h1 fun itv s2 h2 => ?_)
  obtain ⟨it, fp, tn, J, H1, e, I2, T, st, f, q⟩ := h2
  subst e
  refine comp_block (Qd := fun D H' => Q (.ref D) H') (RR := fun acc C => compPost (model X.prog X.w) X.A X.xe none (EP X pins σ Q) acc C) hc I2 K T st f (fun C => hg _ C _ _ _) (fun C => ht _ C _ _ _) (fun C => he _ C _ _ _) q ?_
  intro D C H' s' I' fC ⟨m, hn⟩ qd
  exact ⟨m, hn, fun h' hs' => ⟨.ref D, H', I'.offC (t' := s'.toks) fC hs', rfl, qd⟩⟩
/-- name = [elt for tg in iter if ..] on one line: stored ahead of the block's end -/
def tCompSet (i : Nat) (wi : TI) (g : TG) (tt : TT) (te : TE) (own : Nat) (js : List Nat) : TS := fun D σ H => wi σ H fun J H1 => ∀ d, H1 d = none → tTurns J g tt te (σC own js σ) d (fun H' => D.nx (σ.set i (some (.ref d))) H') H1
theorem ps_comp {wi : TI} {i : Nat} {y : Str} {py spos : Pos} (hc : X.calm = true) (K : Caps X scope cl own caps js) (hi : PI X tg iter wi)
    (hg : ∀ pins C s H1 fp, PG (Xc X pins scope cl C (own ++ caps) s H1 fp) tg g) (ht : ∀ pins C s H1 fp, PTs (Xc X pins scope cl C (own ++ caps) s H1 fp) ifs tt) (he : ∀ pins C s H1 fp, PE (Xc X pins scope cl C (own ++ caps) s H1 fp) elt te)
    (hN : X.N.Nodup) (hy : X.N[i]? = some y) (hyl : X.env.scope.names.lookup y = some .local)
    (hsw : swapsWith (.ListComp elt [⟨tg, iter, ifs, 0⟩] scope pos) (some (.Name y py)) spos.line X.env = pure true)
    (hs : ∀ x, foldedSetIterable iter X.env x = pure x := by intro _; rfl) : PS X (.Assign [.Name y py] (.ListComp elt [⟨tg, iter, ifs, 0⟩] scope pos) spos) (tCompSet i wi g tt te own.length js) := by
  intro pins s σ H D I h
  rw [exec_Assign_Name_used _ _ _ _ hsw]
  refine wpAny_bind (wpAny_standAt (wpAny_bind ?_))
  show wpAny _ X.A (do let _ ← comprehension (.ListComp elt [⟨tg, iter, ifs, 0⟩] scope pos) scope X.env _ (newList []) false (eval iter X.env) (some (assign (.Name y py) X.env))) _ _ s
  refine wpAny_bind (thn (wpAny_comprehension_free (use := some (assign (.Name y py) X.env)) (Q := fun _ s' => SP X pins D .next s') rfl hs K.clos K.kind K.names (thn (hi pins s σ H _ I h) fun v s1 h1 => thn h1 fun itv s2 h2 => ?_)) fun _ s' hq => wpAny_pure (wpAny_pure hq))
  obtain ⟨it, fp, tn, J, H1, e, I2, T, st, f, q⟩ := h2
  subst e
  refine comp_block (Qd := fun d H' => D.nx (σ.set i (some (.ref d))) H') (RR := fun acc C => compPost (model X.prog X.w) X.A X.xe (some (assign (.Name y py) X.env)) (fun _ s' => SP X pins D .next s') acc C) hc I2 K T st f (fun C => hg _ C _ _ _) (fun C => ht _ C _ _ _) (fun C => he _ C _ _ _) q ?_
  intro d C H' s' I' fC ⟨m, hn⟩ qd
  show wpAny _ X.A (assign (.Name y py) X.env (.ref d)) _ _ _
  refine wpAny_assign_Name (store_ok2 I' hN hy (.inl hyl) (show RelV (.ref d) (.ref d) from rfl) (fun s3 I3 ⟨a, sb, ha⟩ => ?_) (.inr hyl))
  have hCa : C ≠ a := by
    rcases ha with z | z
    · rw [z]; exact fC.2.1
    · exact fun z2 => fC.2.2.2.2.1 y a z z2.symm
  exact ⟨m, hn.sameBut sb hCa, fun h' hs' => ⟨_, H', I3.offC (t' := s3.toks) fC hs', qd⟩⟩
end
end L2

/-! ### == and in, where the items are tuples of ints -/
namespace Sx
open PySem PySem.W PyProof.Rows
theorem ints_fun : ∀ {vs : List Value} {a b : List Int}, IntsAre vs a → IntsAre vs b → a = b
  | _, _, _, .nil, .nil => rfl
  | _, _, _, .cons n t h, .cons _ _ h' => by rw [ints_fun h h']
theorem ints_at : ∀ {vs : List Value} {ns : List Int} {i : Nat} {v : Value}, IntsAre vs ns → vs[i]? = some v → ∃ t, v = .int (ns.getD i 0) t
  | _, _, _, _, .nil, e => by simp at e
  | _, _, 0, _, .cons n t _, e => by simp at e; subst e; exact ⟨t, rfl⟩
  | _, _, i + 1, v, .cons n t h, e => by
    obtain ⟨t', e'⟩ := ints_at (i := i) (v := v) h (by simpa using e)
    exact ⟨t', by simpa using e'⟩
theorem all_eq : ∀ (t u : List Int), ((List.range (min t.length u.length)).all (fun j => t.getD j 0 == u.getD j 0) && t.length == u.length) = decide (t = u) := by
  intro t u
  rw [Bool.eq_iff_iff, Bool.and_eq_true, List.all_eq_true, beq_iff_eq, decide_eq_true_iff]
  constructor
  · rintro ⟨h1, h2⟩
    apply List.ext_getElem h2
    intro i hi hj
    have := h1 i (List.mem_range.mpr (by omega))
    simpa [hi, hj] using this
  · rintro rfl
    exact ⟨fun i _ => by simp, rfl⟩
theorem eqAt_tups {A : Around} {s : Shared} {a b : Addr} {t u : List Int} (ha : TupI s.heap a t) (hb : TupI s.heap b u) (hu : A.units < cLine) : SeqAt.EqAt A s (.ref a) (.ref b) (decide (t = u)) := by
  obtain ⟨oa, ia, na, ea, ca, da, pa⟩ := ha
  obtain ⟨ob, ib, nb, eb, cb, db, pb⟩ := hb
  by_cases e : a = b
  · subst e
    rw [ea] at eb
    cases eb
    rw [da] at db
    injection db with d1 _
    subst d1
    have := ints_fun pa pb
    subst this
    rw [decide_eq_true rfl]
    exact SeqAt.EqAt.same _
  · have la : ia.size = t.length := by rw [← pa.length, Array.length_toList]
    have lb : ib.size = u.length := by rw [← pb.length, Array.length_toList]
    have := SeqAt.RcAt.tuples (A := A) (s := s) (l := a) (b := b) (items := ia) (items2 := ib) (e := fun j => t.getD j 0 == u.getD j 0) ⟨oa, ea, ca, na, da⟩ ⟨ob, eb, cb, nb, db⟩ hu fun j h1 h2 => by
      obtain ⟨t1, e1⟩ := ints_at (i := j) (v := ia[j]) pa (by simp [h1])
      obtain ⟨t2, e2⟩ := ints_at (i := j) (v := ib[j]) pb (by simp [h2])
      rw [e1, e2]
      exact SeqAt.EqAt.int_int _ _ _ _
    rw [la, lb, all_eq] at this
    exact SeqAt.EqAt.of_refs e this
end Sx
namespace L2
open PySem PySem.Spec PyProof.Rows
theorem ints_inj : ∀ {a b : List Int}, a.map V.int = b.map V.int → a = b
  | [], [], _ => rfl
  | [], _ :: _, e => by simp at e
  | _ :: _, [], e => by simp at e
  | x :: xs, y :: ys, e => by
    rw [List.map_cons, List.map_cons] at e
    injection e with e1 e2
    injection e1 with e1
    rw [e1, ints_inj e2]
section
variable {X : Cx}
open Classical in
/-- does the tuple t stand there -/
noncomputable def isT (H : Hp) (t : List Int) : Value → Bool
  | .ref r => decide (H r = some (.tup (t.map V.int)))
  | _ => false
theorem isT_ref {H : Hp} {t u : List Int} {r : Addr} (h : H r = some (.tup (u.map V.int))) : isT H t (.ref r) = decide (u = t) := by
  classical
  unfold isT
  rw [Bool.eq_iff_iff, decide_eq_true_iff, decide_eq_true_iff, h]
  constructor
  · intro e
    injection e with e
    injection e with e
    exact ints_inj e
  · rintro rfl; rfl
theorem any_isT {H : Hp} {t : List Int} : ∀ {rs : List Addr} {ts : List (List Int)}, TupsH H rs ts → (rs.map Value.ref).any (isT H t) = ts.any (fun u => decide (u = t))
  | _, _, .nil => rfl
  | _, _, .cons h r => by rw [List.map_cons, List.any_cons, List.any_cons, isT_ref h.1, any_isT r]
/-- (a, b) not in xs, all tuples of ints -/
theorem op_notInT (hu : X.A.units + 1 < cLine) : OpR X (compareOp .NotIn) (fun x y H Q => ∃ b t p rs ts, x = .ref b ∧ H b = some (.tup (t.map V.int)) ∧ y = .ref p ∧ SqL X.K H p (rs.map V.ref) ∧ TupsH H rs ts ∧ Q (.bl (!ts.any fun u => decide (u = t))) H) := by
  intro pins s σ H x y v u Q I rx ry h
  obtain ⟨b, t, p, rs, ts, rfl, hb, rfl, hq, hp, q⟩ := h
  cases rx
  cases ry
  obtain ⟨its, rv, pl, hz⟩ := I.list hq
  have ei := refs_of rv
  subst ei
  refine SeqAt.notIn_listAt (isT H t) pl.isList (fun v hv => ?_) ⟨.bl _, H, I, rfl, ?_⟩
  · have hv' : v ∈ rs.map Value.ref := by simpa using hv
    obtain ⟨r, hr, rfl⟩ := List.mem_map.mp hv'
    obtain ⟨i, hi, e⟩ := List.getElem_of_mem hr
    obtain ⟨t', _, ht, _⟩ := Sx.pair_at (i := i) (a := r) hp (by rw [← e]; simp [hi])
    rw [isT_ref ht]
    exact Sx.eqAt_tups (I.tupI ht) (I.tupI hb) hu
  · rw [show (rs.map Value.ref).toArray.any (isT H t) = (rs.map Value.ref).any (isT H t) by simp, any_isT hp]
    exact q
theorem all_eqL : ∀ (ts us : List (List Int)), ts.length = us.length → (List.range ts.length).all (fun j => decide (ts.getD j [] = us.getD j [])) = decide (ts = us) := by
  intro ts us hl
  rw [Bool.eq_iff_iff, List.all_eq_true, decide_eq_true_iff]
  constructor
  · intro h1
    apply List.ext_getElem hl
    intro i hi hj
    have := h1 i (List.mem_range.mpr hi)
    simpa [hi, hj] using this
  · rintro rfl
    exact fun i _ => by simp
/-- two lists of tuples of ints compared -/
theorem op_eqLT (hu : X.A.units + 1 < cLine) : OpR X (compareOp .Eq) (fun x y H Q => ∃ a b rs qs ts us, x = .ref a ∧ y = .ref b ∧ SqL X.K H a (rs.map V.ref) ∧ SqL X.K H b (qs.map V.ref) ∧ TupsH H rs ts ∧ TupsH H qs us ∧ Q (.bl (decide (ts = us))) H) := by
  intro pins s σ H x y v u Q I rx ry h
  obtain ⟨a, b, rs, qs, ts, us, rfl, rfl, ha, hb, hp, hq, q⟩ := h
  cases rx
  cases ry
  obtain ⟨ia, ra, pa, _⟩ := I.list ha
  obtain ⟨ib, rb, pb, _⟩ := I.list hb
  have ea := refs_of ra
  have eb := refs_of rb
  subst ea
  subst eb
  have l1 := Paired.length hp
  have l2 := Paired.length hq
  have hu' : X.A.units < cLine := by omega
  by_cases hl : rs.length = qs.length
  · refine SeqAt.eq_listAt (e := fun j => decide (ts.getD j [] = us.getD j [])) pa.isList pb.isList (by simp [hl]) hu' (fun j h1 h2 => ?_) ?_
    · have h1' : j < rs.length := by simpa using h1
      have h2' : j < qs.length := by simpa using h2
      obtain ⟨t, et, ht, _⟩ := Sx.pair_at (i := j) (a := rs[j]) hp (by simp [h1'])
      obtain ⟨t', et', ht', _⟩ := Sx.pair_at (i := j) (a := qs[j]) hq (by simp [h2'])
      have e1 : ts.getD j [] = t := by simp [et]
      have e2 : us.getD j [] = t' := by simp [et']
      rw [e1, e2]
      simp only [List.getElem_toArray, List.getElem_map]
      exact Sx.eqAt_tups (I.tupI ht) (I.tupI ht') hu
    · rw [show (rs.map Value.ref).toArray.size = ts.length by simp [l1], all_eqL ts us (by omega)]
      exact ⟨.bl _, H, I, rfl, q⟩
  · refine SeqAt.eq_list_lengthsAt pa.isList pb.isList (by simpa using hl) hu' ⟨.bl false, H, I, rfl, ?_⟩
    rw [show decide (ts = us) = false from decide_eq_false (fun e => hl (by rw [l1, l2, e]))] at q
    exact q
end
end L2

/-! ### turns of a comprehension, lists side by side -/
namespace L2
open PySem PySem.Spec PyProof.Rows
theorem yes_of {σ : St} {H : Hp} {A B : Hp → Prop} (h : A H) : tYes σ H fun c H5 => if c = true then A H5 else B H5 := by
  show if true = true then A H else B H
  rw [if_pos rfl]
  exact h
/-- the next turn of a comprehension of n turns -/
def Nxt (n i : Nat) (Pv : Nat → List V → St → Hp → Prop) (ys : List V) (σ : St) (H : Hp) : Prop := ∃ m', m' < n - i ∧ m' = n - (i + 1) ∧ i + 1 ≤ n ∧ Pv (i + 1) ys σ H
theorem Nxt.mk {n i : Nat} {Pv : Nat → List V → St → Hp → Prop} {ys : List V} {σ : St} {H : Hp} (hi : i < n) (h : Pv (i + 1) ys σ H) : Nxt n i Pv ys σ H := ⟨n - (i + 1), by omega, rfl, hi, h⟩
theorem turns_list {K : PySem.W.Frag} {a D : Addr} {xs : List V} {g : TG} {tt : TT} {te : TE} {σ0 : St} {Qd : Hp → Prop} {H1 : Hp} (Pv : Nat → List V → St → Hp → Prop) (h0 : Pv 0 [] σ0 (upd H1 D (.lst [])))
    (hD : ∀ i ys σ H, Pv i ys σ H → H D = some (.lst ys) ∧ ys.length < sizeLine ∧ SqL K H a xs)
    (hs : ∀ i x ys σ H, xs[i]? = some x → Pv i ys σ H → g x σ H fun σ2 H4 => tt σ2 H4 fun c H5 => if c = true then te σ2 H5 fun y H6 => H6 D = some (.lst ys) ∧ Nxt xs.length i Pv (ys ++ [y]) σ2 (upd H6 D (.lst (ys ++ [y]))) else Nxt xs.length i Pv ys σ2 H5)
    (hd : ∀ ys σ H, Pv xs.length ys σ H → Qd H) : tTurns (Itl K a) g tt te σ0 D Qd H1 := by
  refine ⟨fun i m ys σ H => m = xs.length - i ∧ i ≤ xs.length ∧ Pv i ys σ H, ⟨xs.length, by simp, Nat.zero_le _, h0⟩, ?_⟩
  rintro i m ys σ H ⟨rfl, hi, p⟩
  obtain ⟨d1, d2, d3⟩ := hD i ys σ H p
  refine ⟨d1, ?_⟩
  by_cases hlt : i < xs.length
  · refine .inr ⟨⟨xs, xs[i], d3, by simp [hlt]⟩, d2, fun x H3 y => ?_⟩
    obtain ⟨e, y⟩ := y
    subst e
    exact hs i x ys σ _ (y xs d3) p
  · have e : i = xs.length := by omega
    subst e
    exact .inl ⟨⟨xs, d3, Nat.le_refl _⟩, hd ys σ H p⟩
theorem turns_range {lo : Int} {n : Nat} {D : Addr} {g : TG} {tt : TT} {te : TE} {σ0 : St} {Qd : Hp → Prop} {H1 : Hp} (Pv : Nat → List V → St → Hp → Prop) (h0 : Pv 0 [] σ0 (upd H1 D (.lst [])))
    (hD : ∀ i ys σ H, Pv i ys σ H → H D = some (.lst ys) ∧ ys.length < sizeLine)
    (hs : ∀ i ys σ H, i < n → Pv i ys σ H → g (.int (lo + i)) σ H fun σ2 H4 => tt σ2 H4 fun c H5 => if c = true then te σ2 H5 fun y H6 => H6 D = some (.lst ys) ∧ Nxt n i Pv (ys ++ [y]) σ2 (upd H6 D (.lst (ys ++ [y]))) else Nxt n i Pv ys σ2 H5)
    (hd : ∀ ys σ H, Pv n ys σ H → Qd H) : tTurns (Itr lo n) g tt te σ0 D Qd H1 := by
  refine ⟨fun i m ys σ H => m = n - i ∧ i ≤ n ∧ Pv i ys σ H, ⟨n, by simp, Nat.zero_le _, h0⟩, ?_⟩
  rintro i m ys σ H ⟨rfl, hi, p⟩
  obtain ⟨d1, d2⟩ := hD i ys σ H p
  refine ⟨d1, ?_⟩
  by_cases hlt : i < n
  · refine .inr ⟨hlt, d2, fun x H3 y => ?_⟩
    obtain ⟨e, y⟩ := y
    subst e y
    exact hs i ys σ _ hlt p
  · have e : i = n := by omega
    subst e
    exact .inl ⟨Nat.le_refl _, hd ys σ H p⟩
theorem paired_zip {α β : Type} {F : α → β → Prop} : ∀ {l : List α} {m : List β}, Paired F l m → ∀ p ∈ l.zip m, F p.1 p.2
  | _, _, .nil, p, hp => by simp at hp
  | _, _, .cons h t, p, hp => by
    rcases List.mem_cons.mp hp with rfl | hp
    · exact h
    · exact paired_zip t p hp
theorem zip_paired {α β : Type} {F : α → β → Prop} : ∀ {l : List α} {m : List β}, l.length = m.length → (∀ p ∈ l.zip m, F p.1 p.2) → Paired F l m
  | [], [], _, _ => .nil
  | [], _ :: _, e, _ => by simp at e
  | _ :: _, [], e, _ => by simp at e
  | a :: l, b :: m, e, h => .cons (h (a, b) (.head _)) (zip_paired (by simpa using e) fun p hp => h p (.tail _ hp))
theorem TupsH.sorted {H : Hp} {rs rs' : List Addr} {ts ts' : List (List Int)} (h : TupsH H rs ts) (S : Sx.Sorted rs ts rs' ts') : TupsH H rs' ts' ∧ ts'.Perm ts ∧ rs'.length = rs.length := by
  have l1 := Paired.length h
  have e := S.perm.length_eq
  rw [List.length_zip, List.length_zip] at e
  have e2 := S.len
  refine ⟨zip_paired S.len fun p hp => paired_zip h p (S.perm.mem_iff.mp hp), ?_, by omega⟩
  have q := S.perm.map (·.2)
  rw [List.map_snd_zip (by omega), List.map_snd_zip (by omega)] at q
  exact q
end L2
namespace L2
open PySem PySem.Spec PyProof.Rows
theorem paired_snoc {α β : Type} {F : α → β → Prop} : ∀ {l : List α} {m : List β} {a : α} {b : β}, Paired F l m → F a b → Paired F (l ++ [a]) (m ++ [b])
  | _, _, _, _, .nil, h => .cons h .nil
  | _, _, _, _, .cons q t, h => .cons q (paired_snoc t h)
end L2

/-! ### lists of bools -/
namespace L2
open PySem PySem.Spec PyProof.Rows
theorem vals_bls : ∀ {bs : List Bool} {us : List Value}, Vals (bs.map V.bl) us → us = bs.map Value.bool
  | [], _, h => by rw [List.map_nil] at h; cases h; rfl
  | b :: bs, _, h => by
    rw [List.map_cons] at h
    cases h with
    | cons h1 h2 => rw [vals_bls h2, List.map_cons]; cases h1; rfl
end L2

/-! ### more rules: isinstance of plain values, all, sorted of ints, == of lists of ints and of lists of such, insert -/
namespace Sx
open PySem PySem.W PyProof.Rows
theorem all_eqI (t u : List Int) (hl : t.length = u.length) : (List.range t.length).all (fun j => t.getD j 0 == u.getD j 0) = decide (t = u) := by
  rw [Bool.eq_iff_iff, List.all_eq_true, decide_eq_true_iff]
  constructor
  · intro h1
    apply List.ext_getElem hl
    intro i hi hj
    have := h1 i (List.mem_range.mpr hi)
    simpa [hi, hj] using this
  · rintro rfl
    exact fun i _ => by simp
/-- a list of ints lies there -/
def LstI (h : Heap) (a : Addr) (t : List Int) : Prop := ∃ its : Array Value, h.IsList a its ∧ IntsAre its.toList t
section
variable {A : Around} {s : Shared} {a b : Addr} {t u : List Int}
theorem rcNe_ints (ha : LstI s.heap a t) (hb : LstI s.heap b u) (hu : A.units < cLine) : SeqAt.RcNeAt A s (.ref a) (.ref b) (!decide (t = u)) := by
  obtain ⟨ia, la, pa⟩ := ha
  obtain ⟨ib, lb, pb⟩ := hb
  have sa : ia.size = t.length := by rw [← pa.length, Array.length_toList]
  have sb : ib.size = u.length := by rw [← pb.length, Array.length_toList]
  by_cases hl : t.length = u.length
  · have := SeqAt.RcNeAt.lists (A := A) (e := fun j => t.getD j 0 == u.getD j 0) la lb (by omega) hu fun j h1 h2 => by
      obtain ⟨t1, e1⟩ := ints_at (i := j) (v := ia[j]) pa (by simp [h1])
      obtain ⟨t2, e2⟩ := ints_at (i := j) (v := ib[j]) pb (by simp [h2])
      rw [e1, e2]
      exact SeqAt.EqAt.int_int _ _ _ _
    rw [sa, all_eqI t u hl] at this
    exact this
  · have := SeqAt.RcNeAt.lists_lengths (A := A) la lb (by rw [sa, sb]; simpa using hl) hu
    rw [show decide (t = u) = false from decide_eq_false fun e => hl (by rw [e])]
    exact this
end
end Sx
namespace L2
open PySem PySem.Spec PyProof.Rows
/-- lists of ints -/
abbrev LsH (H : Hp) (rs : List Addr) (ts : List (List Int)) : Prop := Paired (fun r t => H r = some (.lst (t.map V.int))) rs ts
section
variable {X : Cx} {pins : List (Addr × Obj)} {σ : St} {H : Hp} {s : Shared}
theorem Inv.lstI {a : Addr} {t : List Int} (I : Inv X pins σ H s) (hq : SqL X.K H a (t.map V.int)) : Sx.LstI s.heap a t := by
  obtain ⟨its, rv, pl, hz⟩ := I.list hq
  exact ⟨its.toArray, pl.isList, by simpa using intsAre_of rv⟩
theorem op_neI (hu : X.A.units < cLine) : OpR X (compareOp .NotEq) (fun x y H Q => ∃ (a b : Addr) (t u : List Int), x = .ref a ∧ y = .ref b ∧ SqL X.K H a (t.map V.int) ∧ SqL X.K H b (u.map V.int) ∧ Q (.bl (!decide (t = u))) H) := by
  intro pins s σ H x y v u Q I rx ry h
  obtain ⟨a, b, t, w, rfl, rfl, ha, hb, q⟩ := h
  cases rx
  cases ry
  exact Sx.rcNe_ints (I.lstI ha) (I.lstI hb) hu X.prog X.w _ _ ⟨.bl _, H, I, rfl, q⟩
/-- isinstance(x, T), T a built-in kind -/
theorem call_isV : CallR X (.builtin "isinstance") (fun vs H Q => ∃ (x : V) (T : String) (t : Value) (b : Bool), vs = [x, .ty T] ∧ TyOf X.K H x t ∧ PySem.W.kitOne X.K t (.type T) = some b ∧ Q (.bl b) H) := by
  intro pins s σ H vs us Q I r h
  obtain ⟨x, T, t, b, rfl, ty, e, q⟩ := h
  obtain ⟨u, v, rfl, r1, r2⟩ := vals2 r
  cases (show v = Value.type T from r2)
  exact isinst_ok I r1 ty e fun tk => ⟨.bl b, H, I.tok tk, rfl, q⟩
theorem range_allB (bs : List Bool) : ((List.range bs.length).all fun i => (bs[i]?).getD true) = bs.all id := by
  rw [Bool.eq_iff_iff, List.all_eq_true, List.all_eq_true]
  constructor
  · intro h b hb
    obtain ⟨i, hi, rfl⟩ := List.getElem_of_mem hb
    have := h i (List.mem_range.mpr hi)
    simpa [hi] using this
  · intro h i hi
    have hi' := List.mem_range.mp hi
    simpa [hi'] using h bs[i] (List.getElem_mem hi')
/-- all(xs), bools -/
theorem call_allB (hc : X.calm = true) : CallR X (.builtin "all") (fun vs H Q => ∃ (a : Addr) (bs : List Bool), vs = [.ref a] ∧ SqL X.K H a (bs.map V.bl) ∧ Q (.bl (bs.all id)) H) := by
  intro pins s σ H vs us Q I r h
  obtain ⟨a, bs, rfl, hq, q⟩ := h
  obtain ⟨u, rfl, ru⟩ := vals1 r
  cases ru
  obtain ⟨its, rv, pl, hz⟩ := I.list hq
  have ei := vals_bls rv
  subst ei
  have hl := pl.isList
  have hlt : a < s.heap.objs.size := by obtain ⟨_, e, _⟩ := hl; exact Heap.lt_size e
  refine PySem.call_all_walk (wpAny_pyIter_list hl ?_)
  refine ⟨s.heap.objs.size, [s.heap.objs.size, a], [s.heap.objs.size], (bs.map Value.bool).toArray.size, _, _, fun i => (bs[i]?).getD true, rfl, Walks.list (A := X.A.in1) (I.ok.hd hc) _ a (Nat.ne_of_lt hlt) (bs.map Value.bool).toArray,
    ⟨⟨_, Heap.get?_push_size _ rfl, rfl, rfl⟩, hl.push _⟩, fun i v s' Q' E' hP hQ => ?_, fun h' tk hk => ?_⟩
  · have hP : (bs.map Value.bool)[i]? = some v := by simpa using hP
    rw [List.getElem?_map] at hP
    cases e : bs[i]? with
    | none => rw [e] at hP; cases hP
    | some b =>
      rw [e] at hP
      cases hP
      simp only [e, Option.getD_some] at hQ
      exact wpAny_truthy_bool hQ
  · have e : ((List.range (bs.map Value.bool).toArray.size).all fun i => (bs[i]?).getD true) = bs.all id := by
      rw [List.size_toArray, List.length_map]; exact range_allB bs
    rw [e]
    exact ⟨.bl _, H, I.kept fun b x z => hk b x (fun hm => by rw [List.mem_singleton.mp hm] at z; exact Nat.lt_irrefl _ (Heap.lt_size z)) (Heap.get?_push_of_some _ z), rfl, q⟩
end
end L2

/-! ### k13: the mathematics: parts of a web -/
namespace G13
abbrev Tri := Int × Int × Int
/-- some tie has these two ends -/
def tied (T : List Tri) (x y : Int) : Prop := ∃ t ∈ T, (t.1 = x ∧ t.2.1 = y) ∨ (t.1 = y ∧ t.2.1 = x)
/-- a way from x along ties, none of its further points out -/
inductive Reach (T : List Tri) (O : List Int) (x : Int) : Int → Prop
  | refl : Reach T O x x
  | step {y z : Int} : Reach T O x y → tied T y z → z ∉ O → Reach T O x z
section
variable {T : List Tri} {O : List Int} {x y z m : Int}
/-- the points -/
def pts (m : Int) : List Int := (List.range m.toNat).map fun (i : Nat) => (i : Int)
open Classical in
/-- the part of a point -/
noncomputable def comp (m : Int) (T : List Tri) (O : List Int) (x : Int) : List Int := (pts m).filter fun y => decide (Reach T O x y)
/-- the first point of its part -/
def first (T : List Tri) (O : List Int) (x : Int) : Prop := x ∉ O ∧ ∀ y, 0 ≤ y → y < x → y ∉ O → ¬ Reach T O y x
/-- what has been met ahead of point i -/
def met (m : Int) (T : List Tri) (O : List Int) (i : Int) (y : Int) : Prop := y ∈ O ∨ ∃ x, 0 ≤ x ∧ x < i ∧ first T O x ∧ y ∈ comp m T O x
def good (m : Int) (T : List Tri) : Prop := ∀ t ∈ T, 0 ≤ t.1 ∧ t.1 < m ∧ 0 ≤ t.2.1 ∧ t.2.1 < m
open Classical in
noncomputable def firsts (m : Int) (T : List Tri) (O : List Int) (i : Int) : List Int := (pts i).filter fun x => decide (first T O x)
/-- the parts of the points below i -/
noncomputable def partsTo (m : Int) (T : List Tri) (O : List Int) (i : Int) : List (List Int) := (firsts m T O i).map (comp m T O)
/-- a part hangs together: what is reached from one of it within it -/
structure Hangs (T : List Tri) (P : List Int) (h : Int) : Prop where
  ex : ∃ O : List Int, (∀ y ∈ P, Reach T O h y) ∧ ∀ y ∈ P, ∀ z, tied T y z → z ∉ O → z ∈ P
/-- where each point stands -/
def plc : Nat → List (List Int) → List (Int × Nat)
  | _, [] => []
  | k, c :: r => c.map (fun y => (y, k)) ++ plc (k + 1) r
end
end G13

/-! ### the sort of 64 items and more: gallop -/
namespace Ts
open PySem PyProof.Rows
def gallop' : Bool → Keyed → Array Keyed → Nat → Nat → Nat → StateT SortSt Sem (Option Nat) := sortPriv% PySem.Builtin.gallop
def mergeLo' : Array Keyed → Array Keyed → StateT SortSt Sem (Array Keyed) := sortPriv% PySem.Builtin.mergeLo
def mergeHi' : Array Keyed → Array Keyed → StateT SortSt Sem (Array Keyed) := sortPriv% PySem.Builtin.mergeHi
section
variable {prog : Program} {w : World} {A : Around} {E : Value → Shared → Prop} {s : Shared} {κ : SortKind} {O : KeyOrd} {key : Keyed → O.α} {Good : Keyed → Prop}
/-- two good items compared: by their keys, and nothing else is touched -/
def LtOk (prog : Program) (w : World) (A : Around) (E : Value → Shared → Prop) (s : Shared) (κ : SortKind) (O : KeyOrd) (key : Keyed → O.α) (Good : Keyed → Prop) : Prop :=
  ∀ x y, Good x → Good y → ∀ (Q : Option Bool → SortSt → Prop) (st : SortSt), kindOf st = κ → Q (some (O.blt (key x) (key y))) st → wpS (model prog w) A E s (lt' x y) Q st
def bnd (O : KeyOrd) (key : Keyed → O.α) (l : Bool) (k x : Keyed) : Bool := if l = true then O.blt (key x) (key k) else !(O.blt (key k) (key x))
theorem elem_ok {arr : Array Keyed} {i : Nat} {x : Keyed} {Q : Keyed → SortSt → Prop} {st : SortSt} (hx : arr[i]? = some x) (h : Q x st) : wpS (model prog w) A E s (elem' arr i) Q st := by
  rw [elem'_eq, hx]
  exact wpS_pure h
theorem beyond_ok {l : Bool} {k x : Keyed} {arr : Array Keyed} {i : Nat} {Q : Option Bool → SortSt → Prop} {st : SortSt} (L : LtOk prog w A E s κ O key Good) (hk : Good k) (gx : Good x) (hx : arr[i]? = some x) (hst : kindOf st = κ) (h : Q (some (bnd O key l k x)) st) :
    wpS (model prog w) A E s (do let y ← elem' arr i; if l = true then lt' y k else do { let r ← lt' k y; pure (r.map fun z => !z) }) Q st := by
  refine wpS_bind (elem_ok hx ?_)
  unfold bnd at h
  cases l with
  | true =>
    rw [if_pos rfl] at h ⊢
    exact L x k gx hk _ st hst h
  | false =>
    rw [if_neg Bool.false_ne_true] at h ⊢
    exact wpS_bind (L k x hk gx _ st hst (wpS_pure h))
/-- the places parted in two -/
theorem bin_ok {n : Nat} {bb : Nat → Bool} {st : SortSt} {f : Nat → Option (Option Nat) × Nat × Nat → StateT SortSt Sem (ForInStep (Option (Option Nat) × Nat × Nat))} {Q : Option (Option Nat) × Nat × Nat → SortSt → Prop}
    (mono : ∀ i j, i ≤ j → j < n → bb j = true → bb i = true)
    (h1 : ∀ x lo hi (R : ForInStep (Option (Option Nat) × Nat × Nat) → SortSt → Prop), hi ≤ lo → R (.done (none, lo, hi)) st → wpS (model prog w) A E s (f x (none, lo, hi)) R st)
    (h2 : ∀ x lo hi (R : ForInStep (Option (Option Nat) × Nat × Nat) → SortSt → Prop), lo < hi → hi ≤ n → R (.yield (none, if bb (lo + (hi - lo) / 2) = true then lo + (hi - lo) / 2 + 1 else lo, if bb (lo + (hi - lo) / 2) = true then hi else lo + (hi - lo) / 2)) st → wpS (model prog w) A E s (f x (none, lo, hi)) R st)
    {lo hi : Nat} (hl : lo ≤ hi) (hh : hi ≤ n) (ha : ∀ i, i < lo → bb i = true) (hb : ∀ i, hi ≤ i → i < n → bb i = false)
    (h : ∀ lo r, r ≤ n → (∀ i, i < r → bb i = true) → (∀ i, r ≤ i → i < n → bb i = false) → Q (none, lo, r) st) : wpS (model prog w) A E s (forIn [0:n] (none, lo, hi) f) Q st := by
  refine wpS_forRange (I := fun i c st' => st' = st ∧ ∃ lo hi, c = (none, lo, hi) ∧ lo ≤ hi ∧ hi ≤ n ∧ hi - lo + i ≤ n ∧ (∀ i, i < lo → bb i = true) ∧ ∀ i, hi ≤ i → i < n → bb i = false) ?_ ?_ ⟨rfl, lo, hi, rfl, hl, hh, by omega, ha, hb⟩
  · rintro i c st' _ hi' ⟨rfl, lo, hi, rfl, hl, hh, hz, ha, hb⟩
    by_cases e : hi ≤ lo
    · obtain rfl : lo = hi := by omega
      exact h1 i lo lo _ e (h lo lo hh ha hb)
    · refine h2 i lo hi _ (by omega) hh ⟨rfl, _, _, rfl, ?_⟩
      cases q : bb (lo + (hi - lo) / 2) with
      | true =>
        rw [if_pos rfl, if_pos rfl]
        exact ⟨by omega, hh, by omega, fun j hj => mono j _ (by omega) (by omega) q, hb⟩
      | false =>
        rw [if_neg Bool.false_ne_true, if_neg Bool.false_ne_true]
        refine ⟨by omega, by omega, by omega, ha, fun j hj hjn => ?_⟩
        cases z : bb j with
        | false => rfl
        | true => rw [mono _ j hj hjn z] at q; cases q
  · rintro c st' ⟨rfl, lo, hi, rfl, hl, hh, hz, ha, hb⟩
    obtain rfl : lo = hi := by omega
    exact h lo lo hh ha hb
theorem gallop_ok {l : Bool} {k : Keyed} {arr : Array Keyed} {b n hint : Nat} {Q : Option Nat → SortSt → Prop} {st : SortSt} {bb : Nat → Bool} (L : LtOk prog w A E s κ O key Good) (hk : Good k)
    (hg : ∀ i, i < n → ∃ x, arr[b + i]? = some x ∧ Good x ∧ bnd O key l k x = bb i) (mono : ∀ i j, i ≤ j → j < n → bb j = true → bb i = true) (hh : hint < n) (hst : kindOf st = κ)
    (h : ∀ r, r ≤ n → (∀ i, i < r → bb i = true) → (∀ i, r ≤ i → i < n → bb i = false) → Q (some r) st) : wpS (model prog w) A E s (gallop' l k arr b n hint) Q st := by
  have down : ∀ i j, bb i = false → i ≤ j → j < n → bb j = false := fun i j hi hij hj => by
    cases z : bb j with
    | false => rfl
    | true => rw [mono i j hij hj z] at hi; cases hi
  unfold gallop'
  obtain ⟨x, hx, gx, ex⟩ := hg hint hh
  refine wpS_bind (beyond_ok L hk gx hx hst ?_)
  rw [ex]
  dsimp only
  cases q : bb hint with
  | true =>
    rw [if_pos rfl]
    refine wpS_bind (wpS_mono (wpS_forRange (I := fun i c st' => st' = st ∧ ∃ last ofs, c = (none, last, ofs) ∧ hint + last < n ∧ bb (hint + last) = true ∧ last < ofs ∧ i + 1 ≤ ofs)
      (Q := fun c st' => st' = st ∧ ∃ last ofs, c = (none, last, ofs) ∧ hint + last < n ∧ bb (hint + last) = true ∧ last < ofs ∧ (n - hint ≤ ofs ∨ (hint + ofs < n ∧ bb (hint + ofs) = false))) ?_ ?_ ⟨rfl, 0, 1, rfl, hh, q, by omega, by omega⟩) ?_)
    · rintro i c st' _ hi ⟨rfl, last, ofs, rfl, l1, l2, l3, l4⟩
      dsimp only
      by_cases e : ofs ≥ n - hint
      · rw [if_pos e]
        exact wpS_pure ⟨rfl, last, ofs, rfl, l1, l2, l3, .inl e⟩
      · rw [if_neg e]
        obtain ⟨y, hy, gy, ey⟩ := hg (hint + ofs) (by omega)
        refine wpS_bind (beyond_ok L hk gy hy hst ?_)
        rw [ey]
        dsimp only
        cases z : bb (hint + ofs) with
        | false => exact wpS_pure ⟨rfl, last, ofs, rfl, l1, l2, l3, .inr ⟨by omega, z⟩⟩
        | true => exact wpS_pure ⟨rfl, ofs, 2 * ofs + 1, rfl, by omega, z, by omega, by omega⟩
    · rintro c st' ⟨rfl, last, ofs, rfl, l1, l2, l3, l4⟩
      exact ⟨rfl, last, ofs, rfl, l1, l2, l3, .inl (by omega)⟩
    · rintro c st' ⟨rfl, last, ofs, rfl, l1, l2, l3, l4⟩
      dsimp only
      refine wpS_bind (bin_ok (bb := bb) mono ?_ ?_ (by omega) (by omega) (fun i hi => mono i _ (by omega) l1 l2) (fun i hi hin => ?_) fun lo r r1 r2 r3 => ?_)
      · intro x lo hi R hle hR
        dsimp only
        rw [if_pos hle]
        exact wpS_pure hR
      · intro x lo hi R hlt hn hR
        dsimp only
        rw [if_neg (by omega)]
        obtain ⟨y, hy, gy, ey⟩ := hg (lo + (hi - lo) / 2) (by omega)
        refine wpS_bind (beyond_ok L hk gy hy hst ?_)
        rw [ey]
        dsimp only
        cases z : bb (lo + (hi - lo) / 2) with
        | false =>
          rw [z] at hR
          exact wpS_pure hR
        | true =>
          rw [z] at hR
          exact wpS_pure hR
      · rcases l4 with l4 | ⟨l4, l5⟩
        · omega
        · exact down (hint + ofs) i l5 (by omega) hin
      · exact wpS_pure (h r r1 r2 r3)
  | false =>
    rw [if_neg Bool.false_ne_true]
    refine wpS_bind (wpS_mono (wpS_forRange (I := fun i c st' => st' = st ∧ ∃ last ofs, c = (none, last, ofs) ∧ last ≤ hint ∧ bb (hint - last) = false ∧ last < ofs ∧ i + 1 ≤ ofs)
      (Q := fun c st' => st' = st ∧ ∃ last ofs, c = (none, last, ofs) ∧ last ≤ hint ∧ bb (hint - last) = false ∧ last < ofs ∧ (hint + 1 ≤ ofs ∨ (ofs ≤ hint ∧ bb (hint - ofs) = true))) ?_ ?_ ⟨rfl, 0, 1, rfl, by omega, q, by omega, by omega⟩) ?_)
    · rintro i c st' _ hi ⟨rfl, last, ofs, rfl, l1, l2, l3, l4⟩
      dsimp only
      by_cases e : ofs ≥ hint + 1
      · rw [if_pos e]
        exact wpS_pure ⟨rfl, last, ofs, rfl, l1, l2, l3, .inl e⟩
      · rw [if_neg e]
        obtain ⟨y, hy, gy, ey⟩ := hg (hint - ofs) (by omega)
        refine wpS_bind (beyond_ok L hk gy hy hst ?_)
        rw [ey]
        dsimp only
        cases z : bb (hint - ofs) with
        | true => exact wpS_pure ⟨rfl, last, ofs, rfl, l1, l2, l3, .inr ⟨by omega, z⟩⟩
        | false => exact wpS_pure ⟨rfl, ofs, 2 * ofs + 1, rfl, by omega, z, by omega, by omega⟩
    · rintro c st' ⟨rfl, last, ofs, rfl, l1, l2, l3, l4⟩
      exact ⟨rfl, last, ofs, rfl, l1, l2, l3, .inl (by omega)⟩
    · rintro c st' ⟨rfl, last, ofs, rfl, l1, l2, l3, l4⟩
      dsimp only
      refine wpS_bind (bin_ok (bb := bb) mono ?_ ?_ (by omega) (by omega) (fun i hi => ?_) (fun i hi hin => down _ i l2 (by omega) hin) fun lo r r1 r2 r3 => ?_)
      · intro x lo hi R hle hR
        dsimp only
        rw [if_pos hle]
        exact wpS_pure hR
      · intro x lo hi R hlt hn hR
        dsimp only
        rw [if_neg (by omega)]
        obtain ⟨y, hy, gy, ey⟩ := hg (lo + (hi - lo) / 2) (by omega)
        refine wpS_bind (beyond_ok L hk gy hy hst ?_)
        rw [ey]
        dsimp only
        cases z : bb (lo + (hi - lo) / 2) with
        | false =>
          rw [z] at hR
          exact wpS_pure hR
        | true =>
          rw [z] at hR
          exact wpS_pure hR
      · rcases l4 with l4 | ⟨l4, l5⟩
        · omega
        · exact mono i (hint - ofs) (by omega) (by omega) l5
      · exact wpS_pure (h r r1 r2 r3)
end
end Ts

/-! ### two runs merged from their low ends -/
namespace Ts
open PySem PyProof.Rows
section
variable {O : KeyOrd} {key : Keyed → O.α}
/-- in order -/
def Le (O : KeyOrd) (key : Keyed → O.α) (x y : Keyed) : Prop := O.kle (key x) (key y)
theorem Le.trans {x y z : Keyed} (h : Le O key x y) (k : Le O key y z) : Le O key x z := KeyOrd.kle_trans h k
theorem le_of_lt {x y : Keyed} (h : O.blt (key x) (key y) = true) : Le O key x y := KeyOrd.kle_of_klt h
theorem le_of_nlt {x y : Keyed} (h : O.blt (key x) (key y) = false) : Le O key y x := h
/-- what has been put out: the first ia of al, the first ib of bl, in order, and nothing that is left is less -/
structure Mg (O : KeyOrd) (key : Keyed → O.α) (al bl : List Keyed) (out : Array Keyed) (ia ib : Nat) : Prop where
  perm : out.toList.Perm (al.take ia ++ bl.take ib)
  srt : out.toList.Pairwise (Le O key)
  ale : ∀ x ∈ out.toList, ∀ y ∈ al.drop ia, Le O key x y
  ble : ∀ x ∈ out.toList, ∀ y ∈ bl.drop ib, Le O key x y
variable {al bl : List Keyed} {out : Array Keyed} {ia ib : Nat}
theorem take_add (l : List Keyed) (i k : Nat) : l.take (i + k) = l.take i ++ (l.drop i).take k := by
  rw [List.take_add]
theorem drop_add' (l : List Keyed) (i k : Nat) : l.drop (i + k) = (l.drop i).drop k := by rw [List.drop_drop]
/-- k items of al more -/
theorem Mg.app {k : Nat} {more : Array Keyed} (M : Mg O key al bl out ia ib) (sa : al.Pairwise (Le O key)) (hm : more.toList = (al.drop ia).take k) (h : ∀ x ∈ (al.drop ia).take k, ∀ y ∈ bl.drop ib, Le O key x y) : Mg O key al bl (out ++ more) (ia + k) ib := by
  have sd : (al.drop ia).Pairwise (Le O key) := sa.sublist (List.drop_sublist _ _)
  have sp : (al.drop ia).take k ++ (al.drop ia).drop k = al.drop ia := List.take_append_drop _ _
  have sc := sd
  rw [← sp, List.pairwise_append] at sc
  refine ⟨?_, ?_, fun x hx y hy => ?_, fun x hx y hy => ?_⟩
  · rw [Array.toList_append, hm, take_add]
    refine (M.perm.append_right _).trans ?_
    rw [List.append_assoc, List.append_assoc]
    exact List.Perm.append_left _ List.perm_append_comm
  · rw [Array.toList_append, hm, List.pairwise_append]
    exact ⟨M.srt, sc.1, fun x hx y hy => M.ale x hx y (List.mem_of_mem_take hy)⟩
  · rw [drop_add'] at hy
    rw [Array.toList_append, hm] at hx
    rcases List.mem_append.mp hx with hx | hx
    · exact M.ale x hx y (List.mem_of_mem_drop hy)
    · exact sc.2.2 x hx y hy
  · rw [Array.toList_append, hm] at hx
    rcases List.mem_append.mp hx with hx | hx
    · exact M.ble x hx y hy
    · exact h x hx y hy
theorem Mg.swap (M : Mg O key al bl out ia ib) : Mg O key bl al out ib ia := ⟨M.perm.trans List.perm_append_comm, M.srt, M.ble, M.ale⟩
theorem Mg.push {x : Keyed} (M : Mg O key al bl out ia ib) (sa : al.Pairwise (Le O key)) (hx : al[ia]? = some x) (h : ∀ y ∈ bl.drop ib, Le O key x y) : Mg O key al bl (out.push x) (ia + 1) ib := by
  have e : (al.drop ia).take 1 = [x] := by
    obtain ⟨hi, ex⟩ := List.getElem?_eq_some_iff.mp hx
    rw [List.drop_eq_getElem_cons hi, ex]
    rfl
  have := M.app (k := 1) (more := #[x]) sa (by rw [e]) (by rw [e]; intro z hz y hy; rw [List.mem_singleton] at hz; subst hz; exact h y hy)
  rwa [Array.append_singleton] at this
/-- merged -/
def Done (O : KeyOrd) (key : Keyed → O.α) (al bl : List Keyed) (r : Array Keyed) : Prop := r.toList.Perm (al ++ bl) ∧ r.toList.Pairwise (Le O key)
theorem Mg.fin {xs ys : Array Keyed} (M : Mg O key al bl out ia ib) (sa : al.Pairwise (Le O key)) (sb : bl.Pairwise (Le O key)) (hx : xs.toList = al.drop ia) (hy : ys.toList = bl.drop ib) (h : ∀ x ∈ al.drop ia, ∀ y ∈ bl.drop ib, Le O key x y) : Done O key al bl (out ++ xs ++ ys) := by
  constructor
  · rw [Array.toList_append, Array.toList_append, hx, hy]
    have e1 : al.Perm (al.take ia ++ al.drop ia) := by rw [List.take_append_drop]
    have e2 : bl.Perm (bl.take ib ++ bl.drop ib) := by rw [List.take_append_drop]
    refine ((M.perm.append_right _).append_right _).trans ?_
    refine List.Perm.trans ?_ (e1.append e2).symm
    rw [List.append_assoc, List.append_assoc, List.append_assoc]
    refine List.Perm.append_left _ ?_
    rw [← List.append_assoc, ← List.append_assoc]
    exact List.Perm.append_right _ List.perm_append_comm
  · rw [Array.toList_append, Array.toList_append, hx, hy, List.pairwise_append, List.pairwise_append]
    refine ⟨⟨M.srt, sa.sublist (List.drop_sublist _ _), M.ale⟩, sb.sublist (List.drop_sublist _ _), fun x hx y hy => ?_⟩
    rcases List.mem_append.mp hx with hx | hx
    · exact M.ble x hx y hy
    · exact h x hx y hy
theorem Done.swap {r : Array Keyed} (D : Done O key bl al r) : Done O key al bl r := ⟨D.1.trans List.perm_append_comm, D.2⟩
theorem ext_drop (a : Array Keyed) (i : Nat) : (a.extract i a.size).toList = a.toList.drop i := by
  rw [Array.toList_extract, List.extract_eq_take_drop]
  rw [List.take_of_length_le (by rw [List.length_drop, Array.length_toList]; exact Nat.le_refl _)]
theorem ext_take (a : Array Keyed) (i k : Nat) : (a.extract i (i + k)).toList = (a.toList.drop i).take k := by
  rw [Array.toList_extract, List.extract_eq_take_drop, Nat.add_sub_cancel_left]
theorem drop_nil {l : List Keyed} {i : Nat} (h : l.length ≤ i) : ∀ x ∈ l.drop i, False := fun x hx => by
  rw [List.drop_of_length_le h] at hx
  cases hx
theorem drop_at {l : List Keyed} {i : Nat} {x : Keyed} (h : x ∈ l.drop i) : ∃ j, i ≤ j ∧ l[j]? = some x := by
  obtain ⟨j, hj, e⟩ := List.getElem_of_mem h
  rw [List.length_drop] at hj
  refine ⟨i + j, by omega, ?_⟩
  rw [← e]
  simp
theorem take_at {l : List Keyed} {i k : Nat} {x : Keyed} (h : x ∈ (l.drop i).take k) : ∃ j, j < k ∧ l[i + j]? = some x := by
  obtain ⟨j, hj, e⟩ := List.getElem_of_mem h
  rw [List.length_take, List.length_drop] at hj
  refine ⟨j, by omega, ?_⟩
  rw [← e]
  simp
theorem le_at {l : List Keyed} (sl : l.Pairwise (Le O key)) {i j : Nat} {x y : Keyed} (hx : l[i]? = some x) (hy : l[j]? = some y) (h : i ≤ j) : Le O key x y := by
  by_cases e : i = j
  · subst e
    rw [hx] at hy
    cases hy
    exact KeyOrd.kle_refl _
  · obtain ⟨h1, e1⟩ := List.getElem?_eq_some_iff.mp hx
    obtain ⟨h2, e2⟩ := List.getElem?_eq_some_iff.mp hy
    rw [List.pairwise_iff_getElem] at sl
    have := sl i j h1 h2 (by omega)
    rw [e1, e2] at this
    exact this
end
section
variable {prog : Program} {w : World} {A : Around} {E : Value → Shared → Prop} {s : Shared} {κ : SortKind} {O : KeyOrd} {key : Keyed → O.α} {Good : Keyed → Prop}
/-- all but the wins that gallop wants -/
structure Sm (κ : SortKind) (st st' : SortSt) : Prop where
  kind : kindOf st' = κ
  arr : arrOf st' = arrOf st
  pend : pendingOf st' = pendingOf st
  fail : failedOf st' = failedOf st
theorem arr_at {a : Array Keyed} {i : Nat} (h : i < a.size) : ∃ x, a[i]? = some x ∧ a.toList[i]? = some x := ⟨a[i], by simp [h], by simp [h]⟩
/-- gallop to the right of y in a, from ia on -/
theorem gal_right {a : Array Keyed} {ia : Nat} {y : Keyed} {Q : Option Nat → SortSt → Prop} {st : SortSt} (L : LtOk prog w A E s κ O key Good) (ga : ∀ x ∈ a.toList, Good x) (gy : Good y) (sa : a.toList.Pairwise (Le O key)) (hi : ia < a.size) (hst : kindOf st = κ)
    (h : ∀ k, ia + k ≤ a.size → (∀ x ∈ (a.toList.drop ia).take k, Le O key x y) → (∀ x ∈ a.toList.drop (ia + k), Le O key y x) → Q (some k) st) : wpS (model prog w) A E s (gallop' false y a ia (a.size - ia) 0) Q st := by
  have at_ : ∀ i, i < a.size - ia → ∃ x, a[ia + i]? = some x ∧ a.toList[ia + i]? = some x := fun i hi => arr_at (by omega)
  have key' : ∀ i, i < a.size - ia → ∃ x, a[ia + i]? = some x ∧ Good x ∧ bnd O key false y x = (match a[ia + i]? with | some x => !(O.blt (key y) (key x)) | none => false) := fun i hi => by
    obtain ⟨x, h1, h2⟩ := at_ i hi
    refine ⟨x, h1, ga x (List.mem_of_getElem? h2), ?_⟩
    rw [h1]
    rfl
  refine gallop_ok (bb := fun i => match a[ia + i]? with | some x => !(O.blt (key y) (key x)) | none => false) L gy key' (fun i j hij hj hb => ?_) (by omega) hst fun r r1 r2 r3 => h r (by omega) (fun x hx => ?_) (fun x hx => ?_)
  · obtain ⟨x, h1, h2⟩ := at_ i (by omega)
    obtain ⟨z, h3, h4⟩ := at_ j hj
    simp only [h1, h3] at hb ⊢
    have lz : Le O key z y := by
      have : O.blt (key y) (key z) = false := by simpa using hb
      exact this
    have : Le O key x y := (le_at sa h2 h4 (by omega)).trans lz
    have : O.blt (key y) (key x) = false := this
    rw [this]; rfl
  · obtain ⟨j, hj, ej⟩ := take_at hx
    have := r2 j hj
    have e : a[ia + j]? = some x := by simpa using ej
    simp only [e] at this
    have : O.blt (key y) (key x) = false := by simpa using this
    exact this
  · obtain ⟨j, hj, ej⟩ := drop_at hx
    have hjl : j < a.size := by have := (List.getElem?_eq_some_iff.mp ej).1; simpa using this
    have e : a[ia + (j - ia)]? = some x := by rw [show ia + (j - ia) = j by omega]; simpa using ej
    have := r3 (j - ia) (by omega) (by omega)
    simp only [e] at this
    have : O.blt (key y) (key x) = true := by simpa using this
    exact le_of_lt this
/-- gallop to the left of x in b, from ib on -/
theorem gal_left {b : Array Keyed} {ib : Nat} {x : Keyed} {Q : Option Nat → SortSt → Prop} {st : SortSt} (L : LtOk prog w A E s κ O key Good) (gb : ∀ x ∈ b.toList, Good x) (gx : Good x) (sb : b.toList.Pairwise (Le O key)) (hi : ib < b.size) (hst : kindOf st = κ)
    (h : ∀ k, ib + k ≤ b.size → (∀ y ∈ (b.toList.drop ib).take k, Le O key y x) → (∀ y ∈ b.toList.drop (ib + k), Le O key x y) → Q (some k) st) : wpS (model prog w) A E s (gallop' true x b ib (b.size - ib) 0) Q st := by
  have at_ : ∀ i, i < b.size - ib → ∃ x, b[ib + i]? = some x ∧ b.toList[ib + i]? = some x := fun i hi => arr_at (by omega)
  have key' : ∀ i, i < b.size - ib → ∃ y, b[ib + i]? = some y ∧ Good y ∧ bnd O key true x y = (match b[ib + i]? with | some y => O.blt (key y) (key x) | none => false) := fun i hi => by
    obtain ⟨y, h1, h2⟩ := at_ i hi
    refine ⟨y, h1, gb y (List.mem_of_getElem? h2), ?_⟩
    rw [h1]
    rfl
  refine gallop_ok (bb := fun i => match b[ib + i]? with | some y => O.blt (key y) (key x) | none => false) L gx key' (fun i j hij hj hb => ?_) (by omega) hst fun r r1 r2 r3 => h r (by omega) (fun y hy => ?_) (fun y hy => ?_)
  · obtain ⟨y, h1, h2⟩ := at_ i (by omega)
    obtain ⟨z, h3, h4⟩ := at_ j hj
    simp only [h1, h3] at hb ⊢
    exact KeyOrd.klt_of_kle_of_klt (le_at sb h2 h4 (by omega)) hb
  · obtain ⟨j, hj, ej⟩ := take_at hy
    have := r2 j hj
    have e : b[ib + j]? = some y := by simpa using ej
    simp only [e] at this
    exact le_of_lt this
  · obtain ⟨j, hj, ej⟩ := drop_at hy
    have hjl : j < b.size := by have := (List.getElem?_eq_some_iff.mp ej).1; simpa using this
    have e : b[ib + (j - ib)]? = some y := by rw [show ib + (j - ib) = j by omega]; simpa using ej
    have := r3 (j - ib) (by omega) (by omega)
    simp only [e] at this
    exact this
end
end Ts

namespace Ts
open PySem PyProof.Rows
section
variable {prog : Program} {w : World} {A : Around} {E : Value → Shared → Prop} {s : Shared} {κ : SortKind} {O : KeyOrd} {key : Keyed → O.α} {Good : Keyed → Prop}
/-- between two steps of the merge -/
structure Cu (O : KeyOrd) (key : Keyed → O.α) (a b : Array Keyed) (out : Array Keyed) (ia ib : Nat) : Prop where
  mg : Mg O key a.toList b.toList out ia ib
  la : ia + 1 < a.size
  lb : ib < b.size
abbrev Fi (O : KeyOrd) (key : Keyed → O.α) (a b r : Array Keyed) : Prop := Done O key a.toList b.toList r
section
variable {a b out : Array Keyed} {ia ib : Nat}
theorem fin_b (M : Mg O key a.toList b.toList out ia ib) (sa : a.toList.Pairwise (Le O key)) (sb : b.toList.Pairwise (Le O key)) (h : (ib == b.size) = true) : Fi O key a b (out ++ a.extract ia a.size ++ b.extract ib b.size) :=
  M.fin sa sb (ext_drop _ _) (ext_drop _ _) fun _ _ y hy => (drop_nil (by rw [Array.length_toList]; exact Nat.le_of_eq (beq_iff_eq.mp h).symm) y hy).elim
theorem fin_a (M : Mg O key a.toList b.toList out ia ib) (sa : a.toList.Pairwise (Le O key)) (sb : b.toList.Pairwise (Le O key)) (h : (ia == a.size) = true) : Fi O key a b (out ++ a.extract ia a.size ++ b.extract ib b.size) :=
  M.fin sa sb (ext_drop _ _) (ext_drop _ _) fun x hx _ _ => (drop_nil (by rw [Array.length_toList]; exact Nat.le_of_eq (beq_iff_eq.mp h).symm) x hx).elim
theorem fin_last (M : Mg O key a.toList b.toList out ia ib) (sa : a.toList.Pairwise (Le O key)) (sb : b.toList.Pairwise (Le O key)) (hl : ∀ y ∈ b.toList, ∀ x, a.toList[a.size - 1]? = some x → Le O key y x) (h : (ia + 1 == a.size) = true) :
    Fi O key a b (out ++ b.extract ib b.size ++ a.extract ia a.size) := by
  refine (M.swap.fin sb sa (ext_drop _ _) (ext_drop _ _) fun y hy x hx => ?_).swap
  obtain ⟨j, hj, ej⟩ := drop_at hx
  have hjl : j < a.size := by have := (List.getElem?_eq_some_iff.mp ej).1; simpa using this
  have h := beq_iff_eq.mp h
  exact hl y (List.mem_of_mem_drop hy) x (by rw [show a.size - 1 = j by omega]; exact ej)
end
theorem ite_ok {α : Type} {c : Prop} [Decidable c] {m1 m2 : StateT SortSt Sem α} {Q : α → SortSt → Prop} {st : SortSt} (h1 : c → wpS (model prog w) A E s m1 Q st) (h2 : ¬ c → wpS (model prog w) A E s m2 Q st) : wpS (model prog w) A E s (if c then m1 else m2) Q st := by
  by_cases h : c
  · rw [if_pos h]; exact h1 h
  · rw [if_neg h]; exact h2 h
theorem ext_zero (a : Array Keyed) (i : Nat) : a.extract i (i + 0) = #[] := by
  apply Array.ext'
  rw [ext_take, List.take_zero]
theorem ne_of_beq {m n : Nat} (h : ¬ (m == n) = true) : m ≠ n := fun z => h (beq_iff_eq.mpr z)
theorem mergeLo_ok {a b : Array Keyed} {st : SortSt} {Q : Array Keyed → SortSt → Prop} (L : LtOk prog w A E s κ O key Good) (ga : ∀ x ∈ a.toList, Good x) (gb : ∀ x ∈ b.toList, Good x) (sa : a.toList.Pairwise (Le O key)) (sb : b.toList.Pairwise (Le O key))
    (na : 0 < a.size) (nb : 0 < b.size) (hf : ∀ x, a.toList[0]? = some x → ∀ y, b.toList[0]? = some y → Le O key y x) (hl : ∀ y ∈ b.toList, ∀ x, a.toList[a.size - 1]? = some x → Le O key y x) (hst : kindOf st = κ)
    (h : ∀ r st', Fi O key a b r → Sm κ st st' → Q r st') : wpS (model prog w) A E s (mergeLo' a b) Q st := by
  unfold mergeLo'
  refine wpS_bind (wpS_lift (wpAny_rule ⟨rfl, ?_⟩))
  dsimp only
  obtain ⟨y0, hy0, ly0⟩ := arr_at nb
  have s0 : Sm κ st st := ⟨hst, rfl, rfl, rfl⟩
  have la0 : ∀ x ∈ a.toList.drop 0, Le O key y0 x := fun x hx => by
    obtain ⟨j, _, ej⟩ := drop_at hx
    obtain ⟨x0, _, lx0⟩ := arr_at na
    exact (hf x0 lx0 y0 ly0).trans (le_at sa lx0 ej (Nat.zero_le _))
  have M0 : Mg O key a.toList b.toList #[y0] 0 1 := by
    have : Mg O key b.toList a.toList #[] 0 0 := ⟨by simp, by simp, fun x hx => (by simp at hx), fun x hx => (by simp at hx)⟩
    have := (this.push sb ly0 la0).swap
    simpa using this
  refine wpS_bind (elem_ok hy0 ?_)
  by_cases e1 : (1 == b.size) = true
  · rw [if_pos e1]
    exact wpS_pure (h _ _ (fin_b M0 sa sb e1) s0)
  rw [if_neg e1]
  by_cases e2 : (0 + 1 == a.size) = true
  · rw [if_pos e2]
    exact wpS_pure (h _ _ (fin_last M0 sa sb hl e2) s0)
  rw [if_neg e2]
  have e1' : 1 ≠ b.size := fun z => e1 (beq_iff_eq.mpr z)
  have e2' : 0 + 1 ≠ a.size := fun z => e2 (beq_iff_eq.mpr z)
  refine wpS_bind (wpS_get ?_)
  refine wpS_bind (wpS_mono (wpS_forRange
    (I := fun i c st' => Sm κ st st' ∧ ∃ out ia ib g, c = (none, out, ia, ib, g) ∧ Cu O key a b out ia ib ∧ i + 1 ≤ ia + ib)
    (Q := fun c st' => Sm κ st st' ∧ ∃ r out ia ib g, c = (some r, out, ia, ib, g) ∧ Fi O key a b r) ?step ?fin ⟨s0, _, _, _, _, rfl, ⟨M0, by omega, by omega⟩, by omega⟩) ?post)
  case post =>
    rintro c st' ⟨s1, r, out, ia, ib, g, rfl, F⟩
    exact wpS_pure (h r st' F s1)
  case fin =>
    rintro c st' ⟨s1, out, ia, ib, g, rfl, C, hz⟩
    exfalso
    have := C.la
    have := C.lb
    omega
  case step =>
    rintro i c st' _ _ ⟨s1, out, ia, ib, g, rfl, C, hz⟩
    dsimp only
    -- one pair at a time
    refine wpS_bind (wpS_mono (wpS_forRange
      (I := fun _ c st' => Sm κ st st' ∧ ∃ out ia ib ac bc, c = (none, out, ia, ib, ac, bc) ∧ Cu O key a b out ia ib ∧ i + 1 ≤ ia + ib)
      (Q := fun c st' => Sm κ st st' ∧ ((∃ r out ia ib ac bc, c = (some r, out, ia, ib, ac, bc) ∧ Fi O key a b r) ∨ ∃ out ia ib ac bc, c = (none, out, ia, ib, ac, bc) ∧ Cu O key a b out ia ib ∧ i + 1 ≤ ia + ib)) ?step1 ?fin1 ⟨s1, _, _, _, _, _, rfl, C, hz⟩) ?post1)
    case fin1 => exact fun c st' h => ⟨h.1, .inr h.2⟩
    case step1 =>
      rintro j c st2 _ _ ⟨s2, out, ia, ib, ac, bc, rfl, C, hz⟩
      dsimp only
      obtain ⟨y, hy, ly⟩ := arr_at C.lb
      obtain ⟨x, hx, lx⟩ := arr_at (show ia < a.size by have := C.la; omega)
      have la := C.la
      have lb := C.lb
      refine wpS_bind (elem_ok hy (wpS_bind (elem_ok hx (wpS_bind (L y x (gb y (List.mem_of_getElem? ly)) (ga x (List.mem_of_getElem? lx)) _ _ s2.kind ?_)))))
      cases q : O.blt (key y) (key x) with
      | true =>
        dsimp only
        rw [if_pos rfl]
        refine wpS_bind (elem_ok hy ?_)
        have M1 := (C.mg.swap.push sb ly fun z hz => by
          obtain ⟨j, hj, ej⟩ := drop_at hz
          exact (le_of_lt q).trans (le_at sa lx ej hj)).swap
        by_cases f1 : (ib + 1 == b.size) = true
        · rw [if_pos f1]
          exact wpS_pure ⟨s2, .inl ⟨_, _, _, _, _, _, rfl, fin_b M1 sa sb f1⟩⟩
        · rw [if_neg f1]
          have f1' : ib + 1 ≠ b.size := fun z => f1 (beq_iff_eq.mpr z)
          have C1 : Cu O key a b (out.push y) ia (ib + 1) := ⟨M1, la, by omega⟩
          split
          · exact wpS_pure ⟨s2, .inr ⟨_, _, _, _, _, rfl, C1, by omega⟩⟩
          · exact wpS_pure ⟨s2, _, _, _, _, _, rfl, C1, by omega⟩
      | false =>
        dsimp only
        rw [if_neg Bool.false_ne_true]
        refine wpS_bind (elem_ok hx ?_)
        have M1 := C.mg.push sa lx fun z hz => by
          obtain ⟨j, hj, ej⟩ := drop_at hz
          exact (le_of_nlt q).trans (le_at sb ly ej hj)
        by_cases f1 : (ia + 1 + 1 == a.size) = true
        · rw [if_pos f1]
          exact wpS_pure ⟨s2, .inl ⟨_, _, _, _, _, _, rfl, fin_last M1 sa sb hl f1⟩⟩
        · rw [if_neg f1]
          have f1' : ia + 1 + 1 ≠ a.size := fun z => f1 (beq_iff_eq.mpr z)
          have C1 : Cu O key a b (out.push x) (ia + 1) ib := ⟨M1, by omega, lb⟩
          split
          · exact wpS_pure ⟨s2, .inr ⟨_, _, _, _, _, rfl, C1, by omega⟩⟩
          · exact wpS_pure ⟨s2, _, _, _, _, _, rfl, C1, by omega⟩
    case post1 =>
      rintro c st2 ⟨s2, ⟨r, out, ia, ib, ac, bc, rfl, F⟩ | ⟨out, ia, ib, ac, bc, rfl, C, hz⟩⟩
      · exact wpS_pure ⟨s2, r, _, _, _, _, rfl, F⟩
      dsimp only
      refine wpS_bind (wpS_lift (wpAny_rule ⟨rfl, ?_⟩))
      -- gallop
      refine wpS_bind (wpS_mono (wpS_forRange
        (I := fun j c st' => Sm κ st st' ∧ ∃ out ia ib g ac bc, c = (none, out, ia, ib, g, ac, bc) ∧ Cu O key a b out ia ib ∧ i + 1 + j ≤ ia + ib)
        (Q := fun c st' => Sm κ st st' ∧ ((∃ r out ia ib g ac bc, c = (some r, out, ia, ib, g, ac, bc) ∧ Fi O key a b r) ∨ ∃ out ia ib g ac bc, c = (none, out, ia, ib, g, ac, bc) ∧ Cu O key a b out ia ib ∧ i + 2 ≤ ia + ib)) ?step2 ?fin2 ⟨s2, _, _, _, _, _, _, rfl, C, hz⟩) ?post2)
      case fin2 =>
        rintro c st' ⟨s3, out, ia, ib, g, ac, bc, rfl, C, hz⟩
        exact ⟨s3, .inr ⟨_, _, _, _, _, _, rfl, C, by omega⟩⟩
      case post2 =>
        rintro c st3 ⟨s3, ⟨r, out, ia, ib, g, ac, bc, rfl, F⟩ | ⟨out, ia, ib, g, ac, bc, rfl, C, hz⟩⟩
        · exact wpS_pure ⟨s3, r, _, _, _, _, rfl, F⟩
        · dsimp only
          refine wpS_bind (wpS_modify ?_)
          exact wpS_pure ⟨⟨s3.kind, s3.arr, s3.pend, s3.fail⟩, _, _, _, _, rfl, C, by omega⟩
      case step2 =>
        rintro j c st3 _ _ ⟨s3, out, ia, ib, g, ac, bc, rfl, C, hz⟩
        dsimp only
        obtain ⟨y, hy, ly⟩ := arr_at C.lb
        have la := C.la
        have lb := C.lb
        have gy := gb y (List.mem_of_getElem? ly)
        refine ite_ok (fun _ => ?_) (fun _ => ?_)
        all_goals
          refine wpS_bind (wpS_modify ?_)
          refine wpS_bind (elem_ok hy ?_)
          refine wpS_bind (gal_right L ga gy sa (by omega) s3.kind fun k hk k1 k2 => ?_)
          dsimp only
          have M1 : Mg O key a.toList b.toList (out ++ a.extract ia (ia + k)) (ia + k) ib := C.mg.app sa (ext_take _ _ _) fun x hx z hz => by
            obtain ⟨j, hj, ej⟩ := drop_at hz
            exact (k1 x hx).trans (le_at sb ly ej hj)
          have M2 := (M1.swap.push sb ly k2).swap
          refine ite_ok (fun hk0 => ite_ok (fun f1 => wpS_pure ⟨⟨s3.kind, s3.arr, s3.pend, s3.fail⟩, .inl ⟨_, _, _, _, _, _, _, rfl, fin_last M1 sa sb hl f1⟩⟩) (fun f1 => ite_ok (fun f2 => wpS_pure ⟨⟨s3.kind, s3.arr, s3.pend, s3.fail⟩, .inl ⟨_, _, _, _, _, _, _, rfl, fin_a M1 sa sb f2⟩⟩) (fun f2 => ?_))) (fun hk0 => ?_)
          have lk : ia + k + 1 < a.size := by
            have := ne_of_beq f1
            have := ne_of_beq f2
            omega
          rotate_left
          obtain rfl : k = 0 := by omega
          rw [ext_zero, Array.append_empty] at M2
          replace M2 : Mg O key a.toList b.toList (out.push y) ia (ib + 1) := M2
          have lk : ia + 1 < a.size := la
          all_goals
            refine wpS_bind (elem_ok hy ?_)
            refine ite_ok (fun f3 => wpS_pure ⟨⟨s3.kind, s3.arr, s3.pend, s3.fail⟩, .inl ⟨_, _, _, _, _, _, _, rfl, fin_b M2 sa sb f3⟩⟩) (fun f3 => ?_)
            have lb1 : ib + 1 < b.size := by
              have := ne_of_beq f3
              omega
            obtain ⟨x, hx, lx⟩ := arr_at (Nat.lt_of_succ_lt lk)
            have gx := ga x (List.mem_of_getElem? lx)
            refine wpS_bind (elem_ok hx ?_)
            refine wpS_bind (gal_left L gb gx sb lb1 s3.kind fun k' hk' k1' k2' => ?_)
            dsimp only
            have M3 := (M2.swap.app (k := k') (more := b.extract (ib + 1) (ib + 1 + k')) sb (ext_take _ _ _) fun z hz u hu => by
              obtain ⟨j, hj, ej⟩ := drop_at hu
              exact (k1' z hz).trans (le_at sa lx ej hj)).swap
            have M4 := M3.push sa lx k2'
            refine ite_ok (fun h1 => ite_ok (fun f4 => wpS_pure ⟨⟨s3.kind, s3.arr, s3.pend, s3.fail⟩, .inl ⟨_, _, _, _, _, _, _, rfl, fin_b M3 sa sb f4⟩⟩) (fun f4 => ?_)) (fun h1 => ?_)
            have lb2 : ib + 1 + k' < b.size := by
              have := ne_of_beq f4
              omega
            rotate_left
            obtain rfl : k' = 0 := by omega
            rw [ext_zero, Array.append_empty] at M4
            have lb2 : ib + 1 + 0 < b.size := lb1
            all_goals
              refine wpS_bind (elem_ok hx ?_)
              refine ite_ok (fun f5 => wpS_pure ⟨⟨s3.kind, s3.arr, s3.pend, s3.fail⟩, .inl ⟨_, _, _, _, _, _, _, rfl, fin_last M4 sa sb hl f5⟩⟩) (fun f5 => ?_)
              have f5' := ne_of_beq f5
              refine ite_ok (fun _ => wpS_pure ⟨⟨s3.kind, s3.arr, s3.pend, s3.fail⟩, .inr ⟨_, _, _, _, _, _, rfl, ⟨M4, by omega, lb2⟩, by omega⟩⟩) (fun _ => wpS_pure ⟨⟨s3.kind, s3.arr, s3.pend, s3.fail⟩, _, _, _, _, _, _, rfl, ⟨M4, by omega, lb2⟩, by omega⟩)
end
end Ts

/-! ### two runs merged from their high ends -/
namespace Ts
open PySem PyProof.Rows
/-- the order turned about -/
def rv (O : KeyOrd) : KeyOrd where
  α := O.α
  blt := fun x y => O.blt y x
  irrefl := O.irrefl
  trans := fun a b c h1 h2 => O.trans c b a h2 h1
  negTrans := fun a b c h => (O.negTrans c b a h).symm
  total := fun a b h1 h2 => O.total a b h2 h1
section
variable {O : KeyOrd} {key : Keyed → O.α}
abbrev Mh (O : KeyOrd) (key : Keyed → O.α) (a b out : Array Keyed) (na nb : Nat) : Prop := Mg (rv O) key a.toList.reverse b.toList.reverse out (a.size - na) (b.size - nb)
theorem srt_rev {l : List Keyed} (h : l.Pairwise (Le O key)) : l.reverse.Pairwise (Le (rv O) key) := by
  rw [List.pairwise_reverse]
  exact h
theorem rev_drop (l : List Keyed) {n : Nat} (h : n ≤ l.length) : l.reverse.drop (l.length - n) = (l.take n).reverse := by
  rw [List.drop_reverse]
  congr 2
  omega
variable {a b out : Array Keyed} {na nb : Nat}
theorem mem_rest {x : Keyed} (h : na ≤ a.size) (hx : x ∈ a.toList.reverse.drop (a.size - na)) : x ∈ a.toList.take na := by
  have := rev_drop a.toList (n := na) (by rw [Array.length_toList]; exact h)
  rw [Array.length_toList] at this
  rw [this] at hx
  exact List.mem_reverse.mp hx
theorem Mh.push {x : Keyed} (M : Mh O key a b out na nb) (sa : a.toList.Pairwise (Le O key)) (h0 : 0 < na) (h1 : na ≤ a.size) (h2 : nb ≤ b.size) (hx : a.toList[na - 1]? = some x) (h : ∀ y ∈ b.toList.take nb, Le O key y x) : Mh O key a b (out.push x) (na - 1) nb := by
  have e : a.toList.reverse[a.size - na]? = some x := by
    rw [List.getElem?_reverse (by rw [Array.length_toList]; omega), Array.length_toList]
    rw [show a.size - 1 - (a.size - na) = na - 1 by omega]
    exact hx
  have := Mg.push M (srt_rev sa) e fun y hy => h y (mem_rest h2 hy)
  show Mg (rv O) key _ _ _ (a.size - (na - 1)) _
  rw [show a.size - (na - 1) = a.size - na + 1 by omega]
  exact this
theorem ext_mid (a : Array Keyed) (m n : Nat) : (a.extract m n).toList = (a.toList.take n).drop m := by
  rw [Array.toList_extract, List.extract_eq_take_drop, List.drop_take]
theorem Mh.app {m : Nat} (M : Mh O key a b out na nb) (sa : a.toList.Pairwise (Le O key)) (hm : m ≤ na) (h1 : na ≤ a.size) (h2 : nb ≤ b.size) (h : ∀ x ∈ (a.toList.take na).drop m, ∀ y ∈ b.toList.take nb, Le O key y x) : Mh O key a b (out ++ (a.extract m na).reverse) m nb := by
  have e : (a.toList.reverse.drop (a.size - na)).take (na - m) = ((a.toList.take na).drop m).reverse := by
    have := rev_drop a.toList (n := na) (by rw [Array.length_toList]; exact h1)
    rw [Array.length_toList] at this
    rw [this, List.take_reverse]
    congr 2
    rw [List.length_take, Array.length_toList]
    omega
  have := Mg.app (k := na - m) (more := (a.extract m na).reverse) M (srt_rev sa) (by rw [Array.toList_reverse, ext_mid, e]) (by rw [e]; exact fun x hx y hy => h x (List.mem_reverse.mp hx) y (mem_rest h2 hy))
  show Mg (rv O) key _ _ _ (a.size - m) _
  rw [show a.size - m = a.size - na + (na - m) by omega]
  exact this
theorem done_rv {al bl : List Keyed} {r x : Array Keyed} (D : Done (rv O) key al.reverse bl.reverse r) (e : x.toList = r.toList.reverse) : Done O key al bl x := by
  constructor
  · rw [e]
    exact (List.reverse_perm _).trans (D.1.trans ((List.reverse_perm al).append (List.reverse_perm bl)))
  · rw [e, List.pairwise_reverse]
    exact D.2
theorem Mh.finB (M : Mh O key a b out na nb) (sa : a.toList.Pairwise (Le O key)) (sb : b.toList.Pairwise (Le O key)) (h1 : na ≤ a.size) (h2 : nb ≤ b.size) (h : ∀ x ∈ a.toList.take na, ∀ y ∈ b.toList.take nb, Le O key y x) :
    Done O key a.toList b.toList (b.extract 0 nb ++ a.extract 0 na ++ out.reverse) := by
  have ra := rev_drop a.toList (n := na) (by rw [Array.length_toList]; exact h1)
  have rb := rev_drop b.toList (n := nb) (by rw [Array.length_toList]; exact h2)
  rw [Array.length_toList] at ra rb
  refine done_rv (Mg.fin (xs := (a.toList.take na).reverse.toArray) (ys := (b.toList.take nb).reverse.toArray) M (srt_rev sa) (srt_rev sb) ra.symm rb.symm fun x hx y hy => h x (mem_rest h1 hx) y (mem_rest h2 hy)) ?_
  simp only [Array.toList_append, Array.toList_reverse, ext_mid, List.drop_zero, List.reverse_append, List.reverse_reverse, List.append_assoc]
theorem Mh.swap (M : Mh O key a b out na nb) : Mh O key b a out nb na := Mg.swap M
theorem Mh.finA (M : Mh O key a b out na nb) (sa : a.toList.Pairwise (Le O key)) (sb : b.toList.Pairwise (Le O key)) (h1 : na ≤ a.size) (h2 : nb ≤ b.size) (h : (na == 0) = true ∨ (nb == 0) = true) :
    Done O key a.toList b.toList (a.extract 0 na ++ b.extract 0 nb ++ out.reverse) := by
  refine (M.swap.finB sb sa h2 h1 fun y hy x hx => ?_).swap
  exfalso
  rcases h with h | h
  · rw [beq_iff_eq.mp h] at hx; simp at hx
  · rw [beq_iff_eq.mp h] at hy; simp at hy
end
section
variable {prog : Program} {w : World} {A : Around} {E : Value → Shared → Prop} {s : Shared} {κ : SortKind} {O : KeyOrd} {key : Keyed → O.α} {Good : Keyed → Prop}
/-- gallop over a part of an array -/
theorem gal_r {a : Array Keyed} {b n hint : Nat} {y : Keyed} {Q : Option Nat → SortSt → Prop} {st : SortSt} (L : LtOk prog w A E s κ O key Good) (gy : Good y) (ga : ∀ i, i < n → ∃ x, a[b + i]? = some x ∧ Good x)
    (sa : ∀ i j x z, i ≤ j → j < n → a[b + i]? = some x → a[b + j]? = some z → Le O key x z) (hi : hint < n) (hst : kindOf st = κ)
    (h : ∀ r, r ≤ n → (∀ i x, i < r → a[b + i]? = some x → Le O key x y) → (∀ i x, r ≤ i → i < n → a[b + i]? = some x → O.blt (key y) (key x) = true) → Q (some r) st) : wpS (model prog w) A E s (gallop' false y a b n hint) Q st := by
  have key' : ∀ i, i < n → ∃ x, a[b + i]? = some x ∧ Good x ∧ bnd O key false y x = (match a[b + i]? with | some x => !(O.blt (key y) (key x)) | none => false) := fun i hi => by
    obtain ⟨x, h1, h2⟩ := ga i hi
    refine ⟨x, h1, h2, ?_⟩
    rw [h1]
    rfl
  refine gallop_ok (bb := fun i => match a[b + i]? with | some x => !(O.blt (key y) (key x)) | none => false) L gy key' (fun i j hij hj hb => ?_) hi hst fun r r1 r2 r3 => h r r1 (fun i x hi ei => ?_) (fun i x hi hn ei => ?_)
  · obtain ⟨x, h1, _⟩ := ga i (by omega)
    obtain ⟨z, h3, _⟩ := ga j hj
    simp only [h1, h3] at hb ⊢
    have lz : Le O key z y := by
      have : O.blt (key y) (key z) = false := by simpa using hb
      exact this
    have : Le O key x y := (sa i j x z hij hj h1 h3).trans lz
    have : O.blt (key y) (key x) = false := this
    rw [this]; rfl
  · have := r2 i hi
    simp only [ei] at this
    have : O.blt (key y) (key x) = false := by simpa using this
    exact this
  · have := r3 i hi hn
    simp only [ei] at this
    simpa using this
theorem gal_l {a : Array Keyed} {b n hint : Nat} {y : Keyed} {Q : Option Nat → SortSt → Prop} {st : SortSt} (L : LtOk prog w A E s κ O key Good) (gy : Good y) (ga : ∀ i, i < n → ∃ x, a[b + i]? = some x ∧ Good x)
    (sa : ∀ i j x z, i ≤ j → j < n → a[b + i]? = some x → a[b + j]? = some z → Le O key x z) (hi : hint < n) (hst : kindOf st = κ)
    (h : ∀ r, r ≤ n → (∀ i x, i < r → a[b + i]? = some x → O.blt (key x) (key y) = true) → (∀ i x, r ≤ i → i < n → a[b + i]? = some x → Le O key y x) → Q (some r) st) : wpS (model prog w) A E s (gallop' true y a b n hint) Q st := by
  have key' : ∀ i, i < n → ∃ x, a[b + i]? = some x ∧ Good x ∧ bnd O key true y x = (match a[b + i]? with | some x => O.blt (key x) (key y) | none => false) := fun i hi => by
    obtain ⟨x, h1, h2⟩ := ga i hi
    refine ⟨x, h1, h2, ?_⟩
    rw [h1]
    rfl
  refine gallop_ok (bb := fun i => match a[b + i]? with | some x => O.blt (key x) (key y) | none => false) L gy key' (fun i j hij hj hb => ?_) hi hst fun r r1 r2 r3 => h r r1 (fun i x hi ei => ?_) (fun i x hi hn ei => ?_)
  · obtain ⟨x, h1, _⟩ := ga i (by omega)
    obtain ⟨z, h3, _⟩ := ga j hj
    simp only [h1, h3] at hb ⊢
    exact KeyOrd.klt_of_kle_of_klt (sa i j x z hij hj h1 h3) hb
  · have := r2 i hi
    simp only [ei] at this
    exact this
  · have := r3 i hi hn
    simp only [ei] at this
    exact this
structure Ch (O : KeyOrd) (key : Keyed → O.α) (a b out : Array Keyed) (na nb : Nat) : Prop where
  mg : Mh O key a b out na nb
  a0 : 0 < na
  a1 : na ≤ a.size
  b0 : 1 < nb
  b1 : nb ≤ b.size
theorem mid_at {l : List Keyed} {m n : Nat} {x : Keyed} (h : x ∈ (l.take n).drop m) : ∃ j, m ≤ j ∧ j < n ∧ l[j]? = some x := by
  obtain ⟨j, hj, ej⟩ := drop_at h
  have hl := (List.getElem?_eq_some_iff.mp ej).1
  rw [List.length_take] at hl
  rw [List.getElem?_take] at ej
  rw [if_pos (by omega)] at ej
  exact ⟨j, hj, by omega, ej⟩
theorem tk_at {l : List Keyed} {n : Nat} {x : Keyed} (h : x ∈ l.take n) : ∃ j, j < n ∧ l[j]? = some x := by
  obtain ⟨j, _, h2, h3⟩ := mid_at (m := 0) (l := l) (n := n) (x := x) (by rw [List.drop_zero]; exact h)
  exact ⟨j, h2, h3⟩
theorem mergeHi_ok {a b : Array Keyed} {st : SortSt} {Q : Array Keyed → SortSt → Prop} (L : LtOk prog w A E s κ O key Good) (ga : ∀ x ∈ a.toList, Good x) (gb : ∀ x ∈ b.toList, Good x) (sa : a.toList.Pairwise (Le O key)) (sb : b.toList.Pairwise (Le O key))
    (na : 0 < a.size) (nb : 0 < b.size) (hf : ∀ x, a.toList[0]? = some x → ∀ y, b.toList[0]? = some y → Le O key y x) (hl : ∀ y ∈ b.toList, ∀ x, a.toList[a.size - 1]? = some x → Le O key y x) (hst : kindOf st = κ)
    (h : ∀ r st', Fi O key a b r → Sm κ st st' → Q r st') : wpS (model prog w) A E s (mergeHi' a b) Q st := by
  have at_a : ∀ i, i < a.size → ∃ x, a[i]? = some x ∧ a.toList[i]? = some x ∧ Good x := fun i hi => by
    obtain ⟨x, h1, h2⟩ := arr_at hi
    exact ⟨x, h1, h2, ga x (List.mem_of_getElem? h2)⟩
  have at_b : ∀ i, i < b.size → ∃ x, b[i]? = some x ∧ b.toList[i]? = some x ∧ Good x := fun i hi => by
    obtain ⟨x, h1, h2⟩ := arr_at hi
    exact ⟨x, h1, h2, gb x (List.mem_of_getElem? h2)⟩
  have sg : ∀ {c : Array Keyed}, c.toList.Pairwise (Le O key) → ∀ n, n ≤ c.size → ∀ i j x z, i ≤ j → j < n → c[0 + i]? = some x → c[0 + j]? = some z → Le O key x z := fun {c} sc n hn i j x z hij hj hx hz => by
    rw [Nat.zero_add] at hx hz
    exact le_at sc (by simpa using hx) (by simpa using hz) hij
  -- the first of b is at most any of a
  have low : ∀ {n m}, m = 1 → ∀ x ∈ a.toList.take n, ∀ y ∈ b.toList.take m, Le O key y x := fun {n m} hm x hx y hy => by
    obtain ⟨i, _, ei⟩ := tk_at hx
    obtain ⟨j, hj, ej⟩ := tk_at hy
    obtain rfl : j = 0 := by omega
    obtain ⟨x0, _, lx0, _⟩ := at_a 0 na
    exact (hf x0 lx0 y ej).trans (le_at sa lx0 ei (Nat.zero_le _))
  unfold mergeHi'
  refine wpS_bind (wpS_lift (wpAny_rule ⟨rfl, ?_⟩))
  dsimp only
  obtain ⟨x0, hx0, lx0, _⟩ := at_a (a.size - 1) (by omega)
  have s0 : Sm κ st st := ⟨hst, rfl, rfl, rfl⟩
  have M0 : Mh O key a b #[x0] (a.size - 1) b.size := by
    have : Mh O key a b #[] a.size b.size := by
      show Mg (rv O) key _ _ #[] (a.size - a.size) (b.size - b.size)
      rw [Nat.sub_self, Nat.sub_self]
      exact ⟨by simp, by simp, fun x hx => (by simp at hx), fun x hx => (by simp at hx)⟩
    have := Mh.push this sa na (Nat.le_refl _) (Nat.le_refl _) lx0 fun y hy => hl y (List.mem_of_mem_take hy) x0 lx0
    simpa using this
  refine wpS_bind (elem_ok hx0 ?_)
  refine ite_ok (fun e1 => wpS_pure (h _ _ (M0.finA sa sb (by omega) (Nat.le_refl _) (.inl e1)) s0)) (fun e1 => ite_ok (fun e2 => wpS_pure (h _ _ (M0.finB sa sb (by omega) (Nat.le_refl _) (low (beq_iff_eq.mp e2))) s0)) (fun e2 => ?_))
  have e1' := ne_of_beq e1
  have e2' := ne_of_beq e2
  refine wpS_bind (wpS_get ?_)
  refine wpS_bind (wpS_mono (wpS_forRange
    (I := fun i c st' => Sm κ st st' ∧ ∃ na nb out g, c = (none, na, nb, out, g) ∧ Ch O key a b out na nb ∧ i + 1 + na + nb ≤ a.size + b.size)
    (Q := fun c st' => Sm κ st st' ∧ ∃ r na nb out g, c = (some r, na, nb, out, g) ∧ Fi O key a b r) ?step ?fin ⟨s0, _, _, _, _, rfl, ⟨M0, by omega, by omega, by omega, by omega⟩, by omega⟩) ?post)
  case post =>
    rintro c st' ⟨s1, r, na, nb, out, g, rfl, F⟩
    exact wpS_pure (h r st' F s1)
  case fin =>
    rintro c st' ⟨s1, na, nb, out, g, rfl, C, hz⟩
    exfalso
    have := C.a0
    omega
  case step =>
    rintro i c st' _ _ ⟨s1, na, nb, out, g, rfl, C, hz⟩
    dsimp only
    refine wpS_bind (wpS_mono (wpS_forRange
      (I := fun _ c st' => Sm κ st st' ∧ ∃ na nb out ac bc, c = (none, na, nb, out, ac, bc) ∧ Ch O key a b out na nb ∧ i + 1 + na + nb ≤ a.size + b.size)
      (Q := fun c st' => Sm κ st st' ∧ ((∃ r na nb out ac bc, c = (some r, na, nb, out, ac, bc) ∧ Fi O key a b r) ∨ ∃ na nb out ac bc, c = (none, na, nb, out, ac, bc) ∧ Ch O key a b out na nb ∧ i + 1 + na + nb ≤ a.size + b.size)) ?step1 ?fin1 ⟨s1, _, _, _, _, _, rfl, C, hz⟩) ?post1)
    case fin1 => exact fun c st' h => ⟨h.1, .inr h.2⟩
    case step1 =>
      rintro j c st2 _ _ ⟨s2, na, nb, out, ac, bc, rfl, C, hz⟩
      dsimp only
      obtain ⟨M, a0, a1, b0, b1⟩ := C
      obtain ⟨y, hy, ly, gy⟩ := at_b (nb - 1) (by omega)
      obtain ⟨x, hx, lx, gx⟩ := at_a (na - 1) (by omega)
      refine wpS_bind (elem_ok hy (wpS_bind (elem_ok hx (wpS_bind (L y x gy gx _ _ s2.kind ?_)))))
      cases q : O.blt (key y) (key x) with
      | true =>
        dsimp only
        rw [if_pos rfl]
        refine wpS_bind (elem_ok hx ?_)
        have M1 := M.push sa a0 a1 b1 lx fun z hz => by
          obtain ⟨j, hj, ej⟩ := tk_at hz
          exact (le_at sb ej ly (by omega)).trans (le_of_lt q)
        refine ite_ok (fun f1 => wpS_pure ⟨s2, .inl ⟨_, _, _, _, _, _, rfl, M1.finA sa sb (by omega) b1 (.inl f1)⟩⟩) (fun f1 => ?_)
        have f1' := ne_of_beq f1
        refine ite_ok (fun _ => wpS_pure ⟨s2, .inr ⟨_, _, _, _, _, rfl, ⟨M1, by omega, by omega, b0, b1⟩, by omega⟩⟩) (fun _ => wpS_pure ⟨s2, _, _, _, _, _, rfl, ⟨M1, by omega, by omega, b0, b1⟩, by omega⟩)
      | false =>
        dsimp only
        rw [if_neg Bool.false_ne_true]
        refine wpS_bind (elem_ok hy ?_)
        have M1 := (Mh.push M.swap sb (by omega) b1 a1 ly fun z hz => by
          obtain ⟨j, hj, ej⟩ := tk_at hz
          exact (le_at sa ej lx (by omega)).trans (le_of_nlt q)).swap
        refine ite_ok (fun f1 => wpS_pure ⟨s2, .inl ⟨_, _, _, _, _, _, rfl, M1.finB sa sb a1 (by omega) (low (beq_iff_eq.mp f1))⟩⟩) (fun f1 => ?_)
        have f1' := ne_of_beq f1
        refine ite_ok (fun _ => wpS_pure ⟨s2, .inr ⟨_, _, _, _, _, rfl, ⟨M1, a0, a1, by omega, by omega⟩, by omega⟩⟩) (fun _ => wpS_pure ⟨s2, _, _, _, _, _, rfl, ⟨M1, a0, a1, by omega, by omega⟩, by omega⟩)
    case post1 =>
      rintro c st2 ⟨s2, ⟨r, na, nb, out, ac, bc, rfl, F⟩ | ⟨na, nb, out, ac, bc, rfl, C, hz⟩⟩
      · exact wpS_pure ⟨s2, r, _, _, _, _, rfl, F⟩
      dsimp only
      refine wpS_bind (wpS_lift (wpAny_rule ⟨rfl, ?_⟩))
      refine wpS_bind (wpS_mono (wpS_forRange
        (I := fun j c st' => Sm κ st st' ∧ ∃ na nb out g ac bc, c = (none, na, nb, out, g, ac, bc) ∧ Ch O key a b out na nb ∧ i + 1 + j + na + nb ≤ a.size + b.size)
        (Q := fun c st' => Sm κ st st' ∧ ((∃ r na nb out g ac bc, c = (some r, na, nb, out, g, ac, bc) ∧ Fi O key a b r) ∨ ∃ na nb out g ac bc, c = (none, na, nb, out, g, ac, bc) ∧ Ch O key a b out na nb ∧ i + 2 + na + nb ≤ a.size + b.size)) ?step2 ?fin2 ⟨s2, _, _, _, _, _, _, rfl, C, hz⟩) ?post2)
      case fin2 =>
        rintro c st' ⟨s3, na, nb, out, g, ac, bc, rfl, C, hz⟩
        exact ⟨s3, .inr ⟨_, _, _, _, _, _, rfl, C, by omega⟩⟩
      case post2 =>
        rintro c st3 ⟨s3, ⟨r, na, nb, out, g, ac, bc, rfl, F⟩ | ⟨na, nb, out, g, ac, bc, rfl, C, hz⟩⟩
        · exact wpS_pure ⟨s3, r, _, _, _, _, rfl, F⟩
        · dsimp only
          refine wpS_bind (wpS_modify ?_)
          exact wpS_pure ⟨⟨s3.kind, s3.arr, s3.pend, s3.fail⟩, _, _, _, _, rfl, C, by omega⟩
      case step2 =>
        rintro j c st3 _ _ ⟨s3, na, nb, out, g, ac, bc, rfl, C, hz⟩
        dsimp only
        obtain ⟨M, a0, a1, b0, b1⟩ := C
        obtain ⟨y, hy, ly, gy⟩ := at_b (nb - 1) (by omega)
        refine ite_ok (fun _ => ?_) (fun _ => ?_)
        all_goals
          refine wpS_bind (wpS_modify ?_)
          refine wpS_bind (elem_ok hy ?_)
          refine wpS_bind (gal_r L gy (fun i hi => by obtain ⟨x, h1, _, h2⟩ := at_a (0 + i) (by omega); exact ⟨x, h1, h2⟩) (sg sa na a1) (by omega) s3.kind fun m hm k1 k2 => ?_)
          dsimp only
          have up : ∀ x ∈ (a.toList.take na).drop m, Le O key y x := fun x hx => by
            obtain ⟨j, h1, h2, h3⟩ := mid_at hx
            exact le_of_lt (k2 j x h1 h2 (by rw [Nat.zero_add]; simpa using h3))
          have dn : ∀ x ∈ a.toList.take m, Le O key x y := fun x hx => by
            obtain ⟨j, h1, h2⟩ := tk_at hx
            exact k1 j x h1 (by rw [Nat.zero_add]; simpa using h2)
          have M1 := M.app sa hm a1 b1 fun x hx z hz => by
            obtain ⟨j, h1, h2⟩ := tk_at hz
            exact (le_at sb h2 ly (by omega)).trans (up x hx)
          have M2 := (Mh.push M1.swap sb (by omega) b1 (by omega) ly dn).swap
          refine ite_ok (fun hk0 => ite_ok (fun f1 => wpS_pure ⟨⟨s3.kind, s3.arr, s3.pend, s3.fail⟩, .inl ⟨_, _, _, _, _, _, _, rfl, M1.finA sa sb (by omega) b1 (.inl f1)⟩⟩) (fun f1 => ?_)) (fun hk0 => ?_)
          have m0 : 0 < m := by
            have := ne_of_beq f1
            omega
          rotate_left
          obtain rfl : m = na := by omega
          have ez : a.extract m m = #[] := by
            apply Array.ext'
            rw [ext_mid, List.drop_of_length_le (by rw [List.length_take]; omega)]
          rw [ez, Array.reverse_empty, Array.append_empty] at M2
          have m0 : 0 < m := a0
          all_goals
            refine wpS_bind (elem_ok hy ?_)
            refine ite_ok (fun f3 => wpS_pure ⟨⟨s3.kind, s3.arr, s3.pend, s3.fail⟩, .inl ⟨_, _, _, _, _, _, _, rfl, M2.finB sa sb (by omega) (by omega) (low (beq_iff_eq.mp f3))⟩⟩) (fun f3 => ?_)
            have f3' := ne_of_beq f3
            obtain ⟨x, hx, lx, gx⟩ := at_a (m - 1) (by omega)
            refine wpS_bind (elem_ok hx ?_)
            refine wpS_bind (gal_l L gx (fun i hi => by obtain ⟨x, h1, _, h2⟩ := at_b (0 + i) (by omega); exact ⟨x, h1, h2⟩) (sg sb (nb - 1) (by omega)) (by omega) s3.kind fun m' hm' k1' k2' => ?_)
            dsimp only
            have up' : ∀ z ∈ (b.toList.take (nb - 1)).drop m', Le O key x z := fun z hz => by
              obtain ⟨j, h1, h2, h3⟩ := mid_at hz
              exact k2' j z h1 h2 (by rw [Nat.zero_add]; simpa using h3)
            have dn' : ∀ z ∈ b.toList.take m', Le O key z x := fun z hz => by
              obtain ⟨j, h1, h2⟩ := tk_at hz
              exact le_of_lt (k1' j z h1 (by rw [Nat.zero_add]; simpa using h2))
            have M3 := (Mh.app M2.swap sb hm' (by omega) (by omega) fun z hz u hu => by
              obtain ⟨j, h1, h2⟩ := tk_at hu
              exact (le_at sa h2 lx (by omega)).trans (up' z hz)).swap
            have M4 := M3.push sa m0 (by omega) (by omega) lx dn'
            refine ite_ok (fun h1 => ite_ok (fun f4 => wpS_pure ⟨⟨s3.kind, s3.arr, s3.pend, s3.fail⟩, .inl ⟨_, _, _, _, _, _, _, rfl, M3.finB sa sb (by omega) (by omega) (low (beq_iff_eq.mp f4))⟩⟩) (fun f4 => ite_ok (fun f6 => wpS_pure ⟨⟨s3.kind, s3.arr, s3.pend, s3.fail⟩, .inl ⟨_, _, _, _, _, _, _, rfl, M3.finA sa sb (by omega) (by omega) (.inr f6)⟩⟩) (fun f6 => ?_))) (fun h1 => ?_)
            have lb2 : 1 < m' := by
              have := ne_of_beq f4
              have := ne_of_beq f6
              omega
            rotate_left
            obtain rfl : m' = nb - 1 := by omega
            have ez' : b.extract (nb - 1) (nb - 1) = #[] := by
              apply Array.ext'
              rw [ext_mid, List.drop_of_length_le (by rw [List.length_take]; omega)]
            rw [ez', Array.reverse_empty, Array.append_empty] at M4
            have lb2 : 1 < nb - 1 := by omega
            all_goals
              refine wpS_bind (elem_ok hx ?_)
              refine ite_ok (fun f5 => wpS_pure ⟨⟨s3.kind, s3.arr, s3.pend, s3.fail⟩, .inl ⟨_, _, _, _, _, _, _, rfl, M4.finA sa sb (by omega) (by omega) (.inl f5)⟩⟩) (fun f5 => ?_)
              have f5' := ne_of_beq f5
              refine ite_ok (fun _ => wpS_pure ⟨⟨s3.kind, s3.arr, s3.pend, s3.fail⟩, .inr ⟨_, _, _, _, _, _, rfl, ⟨M4, by omega, by omega, lb2, by omega⟩, by omega⟩⟩) (fun _ => wpS_pure ⟨⟨s3.kind, s3.arr, s3.pend, s3.fail⟩, _, _, _, _, _, _, rfl, ⟨M4, by omega, by omega, lb2, by omega⟩, by omega⟩)
end
end Ts

/-! ### the sort of 64 items and more: two pending runs into one -/
namespace Ts
open PySem PyProof.Rows
/-- the items at the places from lo to lo + n -/
def sg (a : Array Keyed) (lo n : Nat) : List Keyed := (a.toList.drop lo).take n
theorem sg_add (a : Array Keyed) (lo m n : Nat) : sg a lo (m + n) = sg a lo m ++ sg a (lo + m) n := by
  unfold sg
  rw [take_add, drop_add']
theorem sg_all (a : Array Keyed) (lo n : Nat) : a.toList = a.toList.take lo ++ sg a lo n ++ a.toList.drop (lo + n) := by
  unfold sg
  rw [drop_add', List.append_assoc, List.take_append_drop, List.take_append_drop]
theorem sg_len {a : Array Keyed} {lo n : Nat} (h : lo + n ≤ a.size) : (sg a lo n).length = n := by
  unfold sg
  rw [List.length_take, List.length_drop, Array.length_toList]
  omega
theorem sg_at {a : Array Keyed} {lo n : Nat} {x : Keyed} (h : x ∈ sg a lo n) : ∃ j, j < n ∧ a[lo + j]? = some x := by
  obtain ⟨j, hj, ej⟩ := take_at h
  exact ⟨j, hj, by simpa using ej⟩
theorem sg_get {a : Array Keyed} {lo n i : Nat} (h : i < n) : (sg a lo n)[i]? = a[lo + i]? := by
  unfold sg
  rw [List.getElem?_take, if_pos h, List.getElem?_drop]
  simp
theorem sg_congr {a b : Array Keyed} {lo n : Nat} (h : ∀ i, i < n → a[lo + i]? = b[lo + i]?) : sg a lo n = sg b lo n := by
  apply List.ext_getElem?
  intro i
  by_cases hi : i < n
  · rw [sg_get hi, sg_get hi, h i hi]
  · unfold sg
    rw [List.getElem?_take, List.getElem?_take, if_neg hi, if_neg hi]
theorem ext_sg (a : Array Keyed) (lo n : Nat) : (a.extract lo (lo + n)).toList = sg a lo n := ext_take a lo n
/-- items written over the places from b on -/
theorem wr_at : ∀ (l : List Keyed) (m b : Nat) (a : Array Keyed) (i : Nat), b + m + l.length ≤ a.size →
    ((l.zipIdx m).foldl (fun a (x : Keyed × Nat) => a.setIfInBounds (b + x.2) x.1) a)[i]? = if b + m ≤ i ∧ i < b + m + l.length then l[i - (b + m)]? else a[i]?
  | [], m, b, a, i, h => by
    rw [if_neg (by simp)]
    rfl
  | x :: l, m, b, a, i, h => by
    rw [List.length_cons] at h
    rw [List.zipIdx_cons, List.foldl_cons, wr_at l (m + 1) b _ i (by rw [Array.size_setIfInBounds]; omega)]
    by_cases c : b + (m + 1) ≤ i ∧ i < b + (m + 1) + l.length
    · rw [if_pos c, if_pos (by rw [List.length_cons]; omega), show i - (b + m) = (i - (b + (m + 1))) + 1 by omega, List.getElem?_cons_succ]
    · rw [if_neg c, Array.getElem?_setIfInBounds]
      by_cases e : b + m = i
      · rw [if_pos e, if_pos (by omega), if_pos (by rw [List.length_cons]; omega), ← e, Nat.sub_self]
        rfl
      · rw [if_neg e, if_neg (by rw [List.length_cons]; omega)]
/-- no place but those from lo to lo + n has changed -/
def Frm (a a' : Array Keyed) (lo n : Nat) : Prop := ∀ i, ¬ (lo ≤ i ∧ i < lo + n) → a'[i]? = a[i]?
theorem Frm.refl (a : Array Keyed) (lo n : Nat) : Frm a a lo n := fun _ _ => rfl
theorem Frm.trans {a b c : Array Keyed} {lo n : Nat} (h : Frm a b lo n) (k : Frm b c lo n) : Frm a c lo n := fun i hi => (k i hi).trans (h i hi)
theorem perm_of_frm {a a' : Array Keyed} {lo n : Nat} (hs : a'.size = a.size) (h : Frm a a' lo n) (hp : (sg a' lo n).Perm (sg a lo n)) : a'.toList.Perm a.toList := by
  have e1 : a'.toList.take lo = a.toList.take lo := by
    apply List.ext_getElem?
    intro i
    rw [List.getElem?_take, List.getElem?_take]
    by_cases hi : i < lo
    · rw [if_pos hi, if_pos hi]
      have := h i (by omega)
      simpa using this
    · rw [if_neg hi, if_neg hi]
  have e2 : a'.toList.drop (lo + n) = a.toList.drop (lo + n) := by
    apply List.ext_getElem?
    intro i
    rw [List.getElem?_drop, List.getElem?_drop]
    have := h (lo + n + i) (by omega)
    simpa using this
  rw [sg_all a' lo n, sg_all a lo n, e1, e2]
  exact (hp.append_left _).append_right _
section
variable {O : KeyOrd} {key : Keyed → O.α}
theorem pw_app {l m : List Keyed} (hl : l.Pairwise (Le O key)) (hm : m.Pairwise (Le O key)) (h : ∀ x ∈ l, ∀ y ∈ m, Le O key x y) : (l ++ m).Pairwise (Le O key) := List.pairwise_append.mpr ⟨hl, hm, h⟩
theorem seg_at {a : Array Keyed} {lo n i j : Nat} {x y : Keyed} (h : (sg a lo n).Pairwise (Le O key)) (hij : i ≤ j) (hj : j < n) (ex : a[lo + i]? = some x) (ey : a[lo + j]? = some y) : Le O key x y :=
  le_at h ((sg_get (by omega)).trans ex) ((sg_get hj).trans ey) hij
end
section
variable {prog : Program} {w : World} {A : Around} {E : Value → Shared → Prop} {s : Shared} {κ : SortKind} {O : KeyOrd} {key : Keyed → O.α} {Good : Keyed → Prop}
/-- what every step of the sort keeps -/
structure Kp (κ : SortKind) (a₀ : Array Keyed) (st : SortSt) : Prop where
  kind : kindOf st = κ
  perm : (arrOf st).toList.Perm a₀.toList
  fail : failedOf st = none
theorem Kp.size {a₀ : Array Keyed} {st : SortSt} (K : Kp κ a₀ st) : (arrOf st).size = a₀.size := by
  have := K.perm.length_eq
  simpa using this
theorem Kp.good {a₀ : Array Keyed} {st : SortSt} (K : Kp κ a₀ st) (g : ∀ x ∈ a₀.toList, Good x) {i : Nat} (h : i < a₀.size) : ∃ x, (arrOf st)[i]? = some x ∧ Good x := by
  obtain ⟨x, h1, h2⟩ := arr_at (a := arrOf st) (i := i) (by rw [K.size]; exact h)
  exact ⟨x, h1, g x (K.perm.mem_iff.mp (List.mem_of_getElem? h2))⟩
theorem set_ok {x : SortSt} {Q : PUnit → SortSt → Prop} {st : SortSt} (h : Q ⟨⟩ x) : wpS (model prog w) A E s (set x : StateT SortSt Sem PUnit) Q st := by
  have : wpS (model prog w) A E s (modify (fun _ => x) : StateT SortSt Sem PUnit) Q st := wpS_modify h
  exact this
theorem mergeAt_ok {a₀ : Array Keyed} {st : SortSt} {i sa na nb p q : Nat} {Q : Bool → SortSt → Prop} (L : LtOk prog w A E s κ O key Good) (g : ∀ x ∈ a₀.toList, Good x) (K : Kp κ a₀ st)
    (h1 : (pendingOf st)[i]? = some (sa, na, p)) (h2 : (pendingOf st)[i + 1]? = some (sa + na, nb, q)) (pa : 0 < na) (pb : 0 < nb) (hs : sa + na + nb ≤ a₀.size)
    (sA : (sg (arrOf st) sa na).Pairwise (Le O key)) (sB : (sg (arrOf st) (sa + na) nb).Pairwise (Le O key))
    (h : ∀ st', Kp κ a₀ st' → pendingOf st' = ((pendingOf st).setIfInBounds i (sa, na + nb, p)).eraseIdxIfInBounds (i + 1) → (sg (arrOf st') sa (na + nb)).Pairwise (Le O key) → Frm (arrOf st) (arrOf st') sa (na + nb) → Q true st') :
    wpS (model prog w) A E s (mergeAt' i) Q st := by
  have gd : ∀ i, i < a₀.size → ∃ x, (arrOf st)[i]? = some x ∧ Good x := fun i hi => K.good g hi
  have sz := K.size
  unfold mergeAt'
  refine wpS_bind (wpS_get ?_)
  dsimp only
  rw [h1, h2]
  dsimp only
  refine wpS_bind (set_ok ?_)
  obtain ⟨y0, ey0, gy0⟩ := gd (sa + na) (by omega)
  refine wpS_bind (elem_ok ey0 ?_)
  refine wpS_bind (gal_r (key := key) L gy0 (fun i hi => gd _ (by omega)) (fun i j x z hij hj ex ez => seg_at sA hij hj ex ez) pa K.kind fun k hk rA rB => ?_)
  dsimp only
  have eA : sg (arrOf st) sa na = sg (arrOf st) sa k ++ sg (arrOf st) (sa + k) (na - k) := by rw [← sg_add]; congr 1; omega
  have leY : ∀ y ∈ sg (arrOf st) (sa + na) nb, Le O key y0 y := fun y hy => by
    obtain ⟨j, hj, ej⟩ := sg_at hy
    exact seg_at sB (Nat.zero_le j) hj ey0 ej
  have leA1 : ∀ x ∈ sg (arrOf st) sa k, Le O key x y0 := fun x hx => by
    obtain ⟨j, hj, ej⟩ := sg_at hx
    exact rA j x hj ej
  have ltA2 : ∀ x ∈ sg (arrOf st) (sa + k) (na - k), O.blt (key y0) (key x) = true := fun x hx => by
    obtain ⟨j, hj, ej⟩ := sg_at hx
    exact rB (k + j) x (by omega) (by omega) (by rw [← Nat.add_assoc]; exact ej)
  refine ite_ok (fun e => wpS_pure (h _ ⟨K.kind, K.perm, K.fail⟩ rfl ?_ (Frm.refl _ _ _))) (fun e => ?_)
  · show (sg (arrOf st) sa (na + nb)).Pairwise (Le O key)
    have ek : k = na := by have := beq_iff_eq.mp e; omega
    subst ek
    rw [sg_add]
    exact pw_app sA sB fun x hx y hy => (leA1 x hx).trans (leY y hy)
  have hk' : k < na := by have := ne_of_beq e; omega
  obtain ⟨x0, ex0, gx0⟩ := gd (sa + k + (na - k) - 1) (by omega)
  refine wpS_bind (elem_ok ex0 ?_)
  refine wpS_bind (gal_l (key := key) L gx0 (fun i hi => gd _ (by omega)) (fun i j x z hij hj ex ez => seg_at sB hij hj ex ez) (by omega) K.kind fun r hr qA qB => ?_)
  dsimp only
  have eB : sg (arrOf st) (sa + na) nb = sg (arrOf st) (sa + na) r ++ sg (arrOf st) (sa + na + r) (nb - r) := by rw [← sg_add]; congr 1; omega
  have eX : sa + k + (na - k) - 1 = sa + (na - 1) := by omega
  have leX : ∀ x ∈ sg (arrOf st) sa na, Le O key x x0 := fun x hx => by
    obtain ⟨j, hj, ej⟩ := sg_at hx
    exact seg_at sA (i := j) (j := na - 1) (by omega) (by omega) ej (eX ▸ ex0)
  have ltB1 : ∀ y ∈ sg (arrOf st) (sa + na) r, O.blt (key y) (key x0) = true := fun x hx => by
    obtain ⟨j, hj, ej⟩ := sg_at hx
    exact qA j x hj ej
  have leB2 : ∀ y ∈ sg (arrOf st) (sa + na + r) (nb - r), Le O key x0 y := fun x hx => by
    obtain ⟨j, hj, ej⟩ := sg_at hx
    exact qB (r + j) x (by omega) (by omega) (by rw [← Nat.add_assoc]; exact ej)
  refine ite_ok (fun e => wpS_pure (h _ ⟨K.kind, K.perm, K.fail⟩ rfl ?_ (Frm.refl _ _ _))) (fun e => ?_)
  · show (sg (arrOf st) sa (na + nb)).Pairwise (Le O key)
    have er : r = 0 := beq_iff_eq.mp e
    subst er
    rw [sg_add]
    exact pw_app sA sB fun x hx y hy => (leX x hx).trans (leB2 y hy)
  have hr0 : 0 < r := by have := ne_of_beq e; omega
  have eXs : ((arrOf st).extract (sa + k) (sa + na)).toList = sg (arrOf st) (sa + k) (na - k) := by rw [← ext_sg]; congr 2; omega
  have eYs : ((arrOf st).extract (sa + na) (sa + na + r)).toList = sg (arrOf st) (sa + na) r := ext_sg _ _ _
  have lX : (sg (arrOf st) (sa + k) (na - k)).length = na - k := sg_len (by omega)
  have lY : (sg (arrOf st) (sa + na) r).length = r := sg_len (by omega)
  have pA2 : (sg (arrOf st) (sa + k) (na - k)).Pairwise (Le O key) := by rw [eA] at sA; exact (List.pairwise_append.mp sA).2.1
  have pB1 : (sg (arrOf st) (sa + na) r).Pairwise (Le O key) := by rw [eB] at sB; exact (List.pairwise_append.mp sB).1
  have szX : ((arrOf st).extract (sa + k) (sa + na)).size = na - k := by rw [← Array.length_toList, eXs, lX]
  have szY : ((arrOf st).extract (sa + na) (sa + na + r)).size = r := by rw [← Array.length_toList, eYs, lY]
  have gX : ∀ x ∈ ((arrOf st).extract (sa + k) (sa + na)).toList, Good x := fun x hx => by
    rw [eXs] at hx
    obtain ⟨j, hj, ej⟩ := sg_at hx
    obtain ⟨z, e1, e2⟩ := gd (sa + k + j) (by omega)
    rw [e1] at ej; cases ej
    exact e2
  have gY : ∀ x ∈ ((arrOf st).extract (sa + na) (sa + na + r)).toList, Good x := fun x hx => by
    rw [eYs] at hx
    obtain ⟨j, hj, ej⟩ := sg_at hx
    obtain ⟨z, e1, e2⟩ := gd (sa + na + j) (by omega)
    rw [e1] at ej; cases ej
    exact e2
  have hf : ∀ x, ((arrOf st).extract (sa + k) (sa + na)).toList[0]? = some x → ∀ y, ((arrOf st).extract (sa + na) (sa + na + r)).toList[0]? = some y → Le O key y x := fun x ex y ey => by
    rw [eXs] at ex
    rw [eYs, sg_get hr0, Nat.add_zero, ey0] at ey
    cases ey
    exact le_of_lt (ltA2 x (List.mem_of_getElem? ex))
  have hl : ∀ y ∈ ((arrOf st).extract (sa + na) (sa + na + r)).toList, ∀ x, ((arrOf st).extract (sa + k) (sa + na)).toList[((arrOf st).extract (sa + k) (sa + na)).size - 1]? = some x → Le O key y x := fun y hy x ex => by
    rw [eYs] at hy
    rw [szX, eXs, sg_get (by omega), show sa + k + (na - k - 1) = sa + k + (na - k) - 1 by omega, ex0] at ex
    cases ex
    exact le_of_lt (ltB1 y hy)
  have fin : ∀ (m : Array Keyed) (st' : SortSt), Fi O key ((arrOf st).extract (sa + k) (sa + na)) ((arrOf st).extract (sa + na) (sa + na + r)) m →
      kindOf st' = κ → arrOf st' = arrOf st → pendingOf st' = ((pendingOf st).setIfInBounds i (sa, na + nb, p)).eraseIdxIfInBounds (i + 1) → failedOf st' = none →
      Q true (setArr st' (m.toList.zipIdx.foldl (fun a (x : Keyed × Nat) => a.setIfInBounds (sa + k + x.2) x.1) (arrOf st'))) := fun m st' F c1 c2 c3 c4 => by
    obtain ⟨mp, ms⟩ := F
    rw [eXs, eYs] at mp
    have ml : m.toList.length = na - k + r := by rw [mp.length_eq, List.length_append, lX, lY]
    rw [c2]
    generalize ea : m.toList.zipIdx.foldl (fun a (x : Keyed × Nat) => a.setIfInBounds (sa + k + x.2) x.1) (arrOf st) = a'
    have at' : ∀ i, a'[i]? = if sa + k ≤ i ∧ i < sa + k + (na - k + r) then m.toList[i - (sa + k)]? else (arrOf st)[i]? := fun i => by
      have := wr_at m.toList 0 (sa + k) (arrOf st) i (by rw [ml]; omega)
      rw [ea, ml] at this
      exact this
    have sz' : a'.size = (arrOf st).size := by
      rw [← ea]
      have : ∀ (l : List (Keyed × Nat)) (a : Array Keyed), (l.foldl (fun a (x : Keyed × Nat) => a.setIfInBounds (sa + k + x.2) x.1) a).size = a.size := by
        intro l
        induction l with
        | nil => intro a; rfl
        | cons x l ih => intro a; rw [List.foldl_cons, ih, Array.size_setIfInBounds]
      exact this _ _
    have fr : Frm (arrOf st) a' (sa + k) (na - k + r) := fun i hi => by rw [at' i, if_neg hi]
    have em : sg a' (sa + k) (na - k + r) = m.toList := by
      apply List.ext_getElem?
      intro i
      by_cases hi : i < na - k + r
      · rw [sg_get hi, at', if_pos (by omega)]
        congr 1; omega
      · rw [List.getElem?_eq_none (by rw [sg_len (by omega)]; omega), List.getElem?_eq_none (by omega)]
    have fr' : Frm (arrOf st) a' sa (na + nb) := fun i hi => fr i (by omega)
    refine h _ ⟨c1, ?_, c4⟩ c3 ?_ fr'
    · show a'.toList.Perm _
      refine (perm_of_frm sz' fr ?_).trans K.perm
      rw [em, sg_add, show sa + k + (na - k) = sa + na by omega]
      exact mp
    · show (sg a' sa (na + nb)).Pairwise _
      have e1 : sg a' sa k = sg (arrOf st) sa k := sg_congr fun j hj => fr _ (by omega)
      have e2 : sg a' (sa + na + r) (nb - r) = sg (arrOf st) (sa + na + r) (nb - r) := sg_congr fun j hj => fr _ (by omega)
      rw [show na + nb = k + (na - k + r) + (nb - r) by omega, sg_add, sg_add, em, e1, show sa + (k + (na - k + r)) = sa + na + r by omega, e2]
      have mm : ∀ x ∈ m.toList, x ∈ sg (arrOf st) (sa + k) (na - k) ∨ x ∈ sg (arrOf st) (sa + na) r := fun x hx => List.mem_append.mp (mp.mem_iff.mp hx)
      have pA1 : (sg (arrOf st) sa k).Pairwise (Le O key) := by rw [eA] at sA; exact (List.pairwise_append.mp sA).1
      have pB2 : (sg (arrOf st) (sa + na + r) (nb - r)).Pairwise (Le O key) := by rw [eB] at sB; exact (List.pairwise_append.mp sB).2.1
      have x0m : ∀ x ∈ m.toList, Le O key x x0 := fun x hx => by
        rcases mm x hx with q | q
        · exact leX x (by rw [eA]; exact List.mem_append_right _ q)
        · exact le_of_lt (ltB1 x q)
      have my0 : ∀ x ∈ m.toList, Le O key y0 x := fun x hx => by
        rcases mm x hx with q | q
        · exact le_of_lt (ltA2 x q)
        · exact leY x (by rw [eB]; exact List.mem_append_left _ q)
      refine pw_app (pw_app pA1 ms fun x hx y hy => (leA1 x hx).trans (my0 y hy)) pB2 fun x hx y hy => ?_
      rcases List.mem_append.mp hx with q | q
      · exact (leX x (by rw [eA]; exact List.mem_append_left _ q)).trans (leB2 y hy)
      · exact (x0m x q).trans (leB2 y hy)
  refine ite_ok (fun _ => wpS_bind (mergeLo_ok L gX gY (by rw [eXs]; exact pA2) (by rw [eYs]; exact pB1) (by rw [szX]; omega) (by rw [szY]; exact hr0) hf hl K.kind fun m st' F S => ?_)) (fun _ => wpS_bind (mergeHi_ok L gX gY (by rw [eXs]; exact pA2) (by rw [eYs]; exact pB1) (by rw [szX]; omega) (by rw [szY]; exact hr0) hf hl K.kind fun m st' F S => ?_))
  all_goals
    refine wpS_bind (wpS_modify (wpS_bind (wpS_get (wpS_pure ?_))))
    have this := fin m st' F S.kind S.arr S.pend (S.fail.trans K.fail)
    have ef : failedOf st' = none := S.fail.trans K.fail
    show Q (failedOf st').isNone _
    rw [ef]
    exact this
end
end Ts

/-! ### the sort of 64 items and more: a run counted, a run made longer -/
namespace Ts
open PySem PyProof.Rows
section
variable {O : KeyOrd} {key : Keyed → O.α}
/-- the key at a place -/
def kk (key : Keyed → O.α) (a : Array Keyed) (lo i : Nat) : O.α := key (a[lo + i]?.getD (Value.none, Value.none))
def Inc (O : KeyOrd) (key : Keyed → O.α) (a : Array Keyed) (lo n : Nat) : Prop := ∀ i j, i ≤ j → j < n → O.kle (kk key a lo i) (kk key a lo j)
def Dec (O : KeyOrd) (key : Keyed → O.α) (a : Array Keyed) (lo n : Nat) : Prop := ∀ i j, i ≤ j → j < n → O.kle (kk key a lo j) (kk key a lo i)
theorem kk_congr {a b : Array Keyed} {lo i j : Nat} (h : a[lo + i]? = b[lo + j]?) : kk key a lo i = kk key b lo j := by
  unfold kk
  rw [h]
theorem inc_one (a : Array Keyed) (lo : Nat) {n : Nat} (h : n ≤ 1) : Inc O key a lo n := fun i j hij hj => (show i = j by omega) ▸ O.irrefl _
theorem inc_snoc {a : Array Keyed} {lo n : Nat} (h : Inc O key a lo n) (hn : 1 ≤ n) (e : O.blt (kk key a lo n) (kk key a lo (n - 1)) = false) : Inc O key a lo (n + 1) := fun i j hij hj => by
  rcases Nat.lt_or_ge j n with q | q
  · exact h i j hij q
  obtain rfl : j = n := by omega
  rcases Nat.lt_or_ge i j with z | z
  · exact KeyOrd.kle_trans (h i (j - 1) (by omega) (by omega)) e
  · obtain rfl : i = j := by omega
    exact O.irrefl _
theorem dec_snoc {a : Array Keyed} {lo n : Nat} (h : Dec O key a lo n) (hn : 1 ≤ n) (e : O.kle (kk key a lo n) (kk key a lo (n - 1))) : Dec O key a lo (n + 1) := fun i j hij hj => by
  rcases Nat.lt_or_ge j n with q | q
  · exact h i j hij q
  obtain rfl : j = n := by omega
  rcases Nat.lt_or_ge i j with z | z
  · exact KeyOrd.kle_trans e (h i (j - 1) (by omega) (by omega))
  · obtain rfl : i = j := by omega
    exact O.irrefl _
theorem dec_congr {a b : Array Keyed} {lo n : Nat} (h : Dec O key a lo n) (e : ∀ k, kk key b lo k = kk key a lo k) : Dec O key b lo n := fun i j hij hj => by
  rw [e, e]
  exact h i j hij hj
theorem inc_seg {a : Array Keyed} {lo n : Nat} (h : Inc O key a lo n) : (sg a lo n).Pairwise (Le O key) := by
  rw [List.pairwise_iff_getElem]
  intro i j hi hj hij
  have li : (sg a lo n).length ≤ n := by unfold sg; rw [List.length_take]; omega
  have hi' : i < n := by omega
  have hj' : j < n := by omega
  have ei : a[lo + i]? = some (sg a lo n)[i] := (sg_get hi').symm.trans (List.getElem?_eq_getElem hi)
  have ej : a[lo + j]? = some (sg a lo n)[j] := (sg_get hj').symm.trans (List.getElem?_eq_getElem hj)
  have := h i j (Nat.le_of_lt hij) hj'
  unfold kk at this
  rw [ei, ej] at this
  exact this
theorem kk_mir {a : Array Keyed} {lo x y : Nat} (h : lo + y ≤ a.size) (k : Nat) : kk key (mirror a (lo + x) (lo + y) ((lo + y - (lo + x)) / 2)) lo k = if x ≤ k ∧ k < y then kk key a lo (x + y - 1 - k) else kk key a lo k := by
  have e := getElem?_mirror_all (i := lo + x) h (lo + k)
  by_cases c : x ≤ k ∧ k < y
  · rw [if_pos (by omega)] at e
    rw [if_pos c]
    refine kk_congr (e.trans ?_)
    congr 1; omega
  · rw [if_neg (by omega)] at e
    rw [if_neg c]
    exact kk_congr e
theorem kk_mir_eq {a : Array Keyed} {lo x y : Nat} (h : lo + y ≤ a.size) (he : ∀ k, x ≤ k → k < y → kk key a lo k = kk key a lo (y - 1)) (k : Nat) : kk key (mirror a (lo + x) (lo + y) ((lo + y - (lo + x)) / 2)) lo k = kk key a lo k := by
  rw [kk_mir h]
  split
  · rw [he _ (by omega) (by omega), he k (by omega) (by omega)]
  · rfl
theorem kk_bub {a : Array Keyed} {lo k l : Nat} (h : lo + k < a.size) (hl : l ≤ k) (i : Nat) : kk key (bubble a (lo + k) (lo + k - (lo + l))) lo i = if i = l then kk key a lo k else if l < i ∧ i ≤ k then kk key a lo (i - 1) else kk key a lo i := by
  have e := getElem?_bubble h (lo + k - (lo + l)) (by omega) (lo + i)
  by_cases c : i = l
  · rw [if_pos (by omega)] at e
    rw [if_pos c]
    exact kk_congr e
  · rw [if_neg (by omega)] at e
    rw [if_neg c]
    by_cases c2 : l < i ∧ i ≤ k
    · rw [if_pos (by omega)] at e
      rw [if_pos c2]
      refine kk_congr (e.trans ?_)
      congr 1; omega
    · rw [if_neg (by omega)] at e
      rw [if_neg c2]
      exact kk_congr e
end
section
variable {prog : Program} {w : World} {A : Around} {E : Value → Shared → Prop} {s : Shared} {κ : SortKind} {O : KeyOrd} {key : Keyed → O.α} {Good : Keyed → Prop} {a₀ : Array Keyed}
structure Cr (κ : SortKind) (a₀ : Array Keyed) (st0 : SortSt) (lo nrem : Nat) (st : SortSt) : Prop where
  kp : Kp κ a₀ st
  pend : pendingOf st = pendingOf st0
  frm : Frm (arrOf st0) (arrOf st) lo nrem
theorem Cr.mir {st0 st : SortSt} {lo nrem x y : Nat} (C : Cr κ a₀ st0 lo nrem st) (h : y ≤ nrem) (hs : lo + nrem ≤ a₀.size) : Cr κ a₀ st0 lo nrem (setArr st (mirror (arrOf st) (lo + x) (lo + y) ((lo + y - (lo + x)) / 2))) :=
  ⟨⟨C.kp.kind, (Array.perm_iff_toList_perm.mp (mirror_perm _ _ _ _)).trans C.kp.perm, C.kp.fail⟩, C.pend, C.frm.trans fun i hi => by
    show (mirror (arrOf st) (lo + x) (lo + y) ((lo + y - (lo + x)) / 2))[i]? = _
    rw [getElem?_mirror_all (by rw [C.kp.size]; omega), if_neg (by omega)]⟩
theorem Cr.bub {st0 st : SortSt} {lo nrem k l : Nat} (C : Cr κ a₀ st0 lo nrem st) (hl : l ≤ k) (h : k < nrem) (hs : lo + nrem ≤ a₀.size) : Cr κ a₀ st0 lo nrem (setArr st (bubble (arrOf st) (lo + k) (lo + k - (lo + l)))) :=
  ⟨⟨C.kp.kind, (Array.perm_iff_toList_perm.mp (bubble_perm _ _ _)).trans C.kp.perm, C.kp.fail⟩, C.pend, C.frm.trans fun i hi => by
    show (bubble (arrOf st) (lo + k) (lo + k - (lo + l)))[i]? = _
    rw [getElem?_bubble (by rw [C.kp.size]; omega) _ (by omega), if_neg (by omega), if_neg (by omega)]⟩
theorem ltAt_ok {st : SortSt} {lo i j i' j' : Nat} {Q : Option Bool → SortSt → Prop} (L : LtOk prog w A E s κ O key Good) (g : ∀ x ∈ a₀.toList, Good x) (K : Kp κ a₀ st) (ei : i' = lo + i) (ej : j' = lo + j) (hi : lo + i < a₀.size) (hj : lo + j < a₀.size)
    (h : Q (some (O.blt (kk key (arrOf st) lo i) (kk key (arrOf st) lo j))) st) : wpS (model prog w) A E s (ltAt' i' j') Q st := by
  subst ei; subst ej
  obtain ⟨x, ex, gx⟩ := K.good g hi
  obtain ⟨y, ey, gy⟩ := K.good g hj
  unfold kk at h
  rw [ex, ey] at h
  rw [ltAt'_eq]
  refine wpS_bind (wpS_get ?_)
  refine wpS_bind (elem_ok ex ?_)
  refine wpS_bind (elem_ok ey ?_)
  exact L x y gx gy Q st K.kind h
theorem asc_ok {st : SortSt} {lo a nrem : Nat} {f : Nat → Option (Option Nat) × Nat → StateT SortSt Sem (ForInStep (Option (Option Nat) × Nat))} {Q : Option (Option Nat) × Nat → SortSt → Prop} (ha : 1 ≤ a) (han : a ≤ nrem)
    (hf : ∀ x n (R : ForInStep (Option (Option Nat) × Nat) → SortSt → Prop), 1 ≤ n → n < nrem → (O.blt (kk key (arrOf st) lo n) (kk key (arrOf st) lo (n - 1)) = true → R (.done (none, n)) st) → (O.blt (kk key (arrOf st) lo n) (kk key (arrOf st) lo (n - 1)) = false → R (.yield (none, n + 1)) st) → wpS (model prog w) A E s (f x (none, n)) R st)
    (hs : Inc O key (arrOf st) lo a) (h : ∀ n, a ≤ n → n ≤ nrem → Inc O key (arrOf st) lo n → (n = nrem ∨ O.klt (kk key (arrOf st) lo n) (kk key (arrOf st) lo (n - 1))) → Q (none, n) st) :
    wpS (model prog w) A E s (forIn [a:nrem] (none, a) f) Q st := by
  refine wpS_forRange (I := fun x c z => z = st ∧ c = (none, x) ∧ Inc O key (arrOf st) lo x) (fun x c z l1 l2 => ?_) (fun c z => ?_) ⟨rfl, rfl, hs⟩
  · rintro ⟨rfl, rfl, up⟩
    exact hf x x _ (by omega) l2 (fun e => h x l1 (by omega) up (.inr e)) fun e => ⟨rfl, rfl, inc_snoc up (by omega) e⟩
  · rintro ⟨rfl, rfl, up⟩
    obtain e : max a nrem = nrem := by omega
    rw [e] at up ⊢
    exact h nrem han (Nat.le_refl nrem) up (.inl rfl)
theorem desc_ok {st0 st : SortSt} {lo a nrem : Nat} {f : Nat → Option (Option Nat) × Nat × Nat → StateT SortSt Sem (ForInStep (Option (Option Nat) × Nat × Nat))} {Q : Option (Option Nat) × Nat × Nat → SortSt → Prop} (hz : lo + nrem ≤ a₀.size) (ha : 1 ≤ a) (han : a ≤ nrem)
    (C : Cr κ a₀ st0 lo nrem st)
    (hf : ∀ x n neq st' (R : ForInStep (Option (Option Nat) × Nat × Nat) → SortSt → Prop), Cr κ a₀ st0 lo nrem st' → 1 ≤ n → n < nrem → neq + 1 ≤ n →
      (O.blt (kk key (arrOf st') lo n) (kk key (arrOf st') lo (n - 1)) = true → neq > 0 → R (.yield (none, n + 1, 0)) (setArr st' (mirror (arrOf st') (lo + (n - (neq + 1))) (lo + n) ((lo + n - (lo + (n - (neq + 1)))) / 2)))) →
      (O.blt (kk key (arrOf st') lo n) (kk key (arrOf st') lo (n - 1)) = true → ¬ neq > 0 → R (.yield (none, n + 1, 0)) st') →
      (O.blt (kk key (arrOf st') lo n) (kk key (arrOf st') lo (n - 1)) = false → O.blt (kk key (arrOf st') lo (n - 1)) (kk key (arrOf st') lo n) = true → R (.done (none, n, neq)) st') →
      (O.blt (kk key (arrOf st') lo n) (kk key (arrOf st') lo (n - 1)) = false → O.blt (kk key (arrOf st') lo (n - 1)) (kk key (arrOf st') lo n) = false → R (.yield (none, n + 1, neq + 1)) st') →
      wpS (model prog w) A E s (f x (none, n, neq)) R st')
    (hs : Dec O key (arrOf st) lo a)
    (h : ∀ m neq st', Cr κ a₀ st0 lo nrem st' → a ≤ m → m ≤ nrem → Dec O key (arrOf st') lo m → neq + 1 ≤ m → (∀ i, m - (neq + 1) ≤ i → i < m → kk key (arrOf st') lo i = kk key (arrOf st') lo (m - 1)) → Q (none, m, neq) st') :
    wpS (model prog w) A E s (forIn [a:nrem] (none, a, 0) f) Q st := by
  refine wpS_forRange (I := fun x c z => ∃ m, c = (none, x, m) ∧ Cr κ a₀ st0 lo nrem z ∧ Dec O key (arrOf z) lo x ∧ m + 1 ≤ x ∧ ∀ i, x - (m + 1) ≤ i → i < x → kk key (arrOf z) lo i = kk key (arrOf z) lo (x - 1))
    (fun x c z l1 l2 => ?_) (fun c z => ?_) ⟨0, rfl, C, hs, ha, fun i _ _ => by congr 1; omega⟩
  · rintro ⟨m, rfl, C', dn, lm, sm⟩
    have fits : lo + x ≤ (arrOf z).size := by rw [C'.kp.size]; omega
    have last : ∀ (b : Array Keyed) i, x + 1 - (0 + 1) ≤ i → i < x + 1 → kk key b lo i = kk key b lo (x + 1 - 1) := fun b i _ _ => by congr 1; omega
    refine hf x x m z _ C' (by omega) l2 lm (fun e q => ⟨0, rfl, C'.mir (by omega) hz, ?_, by omega, last _⟩) (fun e q => ⟨0, rfl, C', dec_snoc dn (by omega) (KeyOrd.kle_of_klt e), by omega, last _⟩) (fun e q => h x m z C' l1 (by omega) dn lm sm) (fun e q => ?_)
    · exact dec_congr (dec_snoc dn (by omega) (KeyOrd.kle_of_klt e)) (kk_mir_eq fits sm)
    · have same : kk key (arrOf z) lo x = kk key (arrOf z) lo (x - 1) := KeyOrd.kle_antisymm q e
      refine ⟨m + 1, rfl, C', dec_snoc dn (by omega) q, by omega, fun i i1 i2 => ?_⟩
      rw [Nat.add_sub_cancel]
      rcases Nat.lt_or_ge i x with y | y
      · exact (sm i (by omega) y).trans same.symm
      · obtain rfl : i = x := by omega
        rfl
  · rintro ⟨m, rfl, C', dn, lm, sm⟩
    obtain e : max a nrem = nrem := by omega
    rw [e] at dn lm sm ⊢
    exact h nrem m z C' han (Nat.le_refl nrem) dn lm sm
theorem countRun_ok {st : SortSt} {lo nrem : Nat} {Q : Option Nat → SortSt → Prop} (L : LtOk prog w A E s κ O key Good) (g : ∀ x ∈ a₀.toList, Good x) (K : Kp κ a₀ st) (h1 : 1 ≤ nrem) (hz : lo + nrem ≤ a₀.size)
    (h : ∀ m st', Cr κ a₀ st lo nrem st' → 1 ≤ m → m ≤ nrem → Inc O key (arrOf st') lo m → Q (some m) st') : wpS (model prog w) A E s (countRun' lo nrem) Q st := by
  have C0 : Cr κ a₀ st lo nrem st := ⟨K, rfl, Frm.refl _ _ _⟩
  have stp : ∀ st' n (R : Option Bool → SortSt → Prop), Kp κ a₀ st' → 1 ≤ n → n < nrem → (∀ b, O.blt (kk key (arrOf st') lo n) (kk key (arrOf st') lo (n - 1)) = b → R (some b) st') → wpS (model prog w) A E s (ltAt' (lo + n) (lo + n - 1)) R st' := fun st' n R K' a b hR =>
    ltAt_ok (key := key) L g K' rfl (show lo + n - 1 = lo + (n - 1) by omega) (by omega) (by omega) (hR _ rfl)
  unfold countRun'
  refine wpS_bind (asc_ok (key := key) (lo := lo) (Nat.le_refl 1) h1 (fun x n R a b r1 r2 => wpS_bind (stp st n _ K a b fun c e => ?_)) (inc_one _ _ (Nat.le_refl 1)) fun n n1 n2 hs hor => ?_)
  · cases c with
    | true => exact wpS_pure (r1 e)
    | false => exact wpS_pure (r2 e)
  dsimp only
  refine ite_ok (fun e => wpS_pure (h n st C0 n1 n2 hs)) fun e => ?_
  have hlt : O.klt (kk key (arrOf st) lo n) (kk key (arrOf st) lo (n - 1)) := hor.resolve_left (ne_of_beq e)
  have hnn : n < nrem := by have := ne_of_beq e; omega
  refine ite_ok (fun hgt => ?_) (fun hgt => ?_)
  · refine wpS_bind (ltAt_ok (key := key) L g K (show lo = lo + 0 from rfl) (show lo + n - 1 = lo + (n - 1) by omega) (by omega) (by omega) ?_)
    dsimp only
    refine ite_ok (fun _ => wpS_pure (h n st C0 n1 n2 hs)) fun hrose => ?_
    have hsz : lo + n ≤ (arrOf st).size := by rw [K.size]; omega
    have hall : ∀ k, 0 ≤ k → k < n → kk key (arrOf st) lo k = kk key (arrOf st) lo (n - 1) := by
      intro k _ hk
      have a1 := hs 0 k (by omega) hk
      have a2 := hs k (n - 1) (by omega) (by omega)
      have a3 : O.kle (kk key (arrOf st) lo (n - 1)) (kk key (arrOf st) lo 0) := by
        have z : O.blt (kk key (arrOf st) lo 0) (kk key (arrOf st) lo (n - 1)) = false := by simpa using hrose
        exact z
      exact KeyOrd.kle_antisymm a2 (KeyOrd.kle_trans a3 a1)
    refine wpS_bind (wpS_reverse ?_)
    have C1 := C0.mir (x := 0) (y := n) n2 hz
    have flat : Dec O key (arrOf st) lo n := fun i j hij hj => by
      rw [hall i (Nat.zero_le i) (by omega), hall j (Nat.zero_le j) hj]
      exact O.irrefl _
    have D1 : Dec O key (arrOf (setArr st (mirror (arrOf st) (lo + 0) (lo + n) ((lo + n - (lo + 0)) / 2)))) lo (n + 1) := dec_congr (dec_snoc flat n1 (KeyOrd.kle_of_klt hlt)) (kk_mir_eq hsz hall)
    change wpS (model prog w) A E s _ Q (setArr st (mirror (arrOf st) (lo + 0) (lo + n) ((lo + n - (lo + 0)) / 2)))
    revert C1 D1
    generalize setArr st (mirror (arrOf st) (lo + 0) (lo + n) ((lo + n - (lo + 0)) / 2)) = st1
    intro C1 D1
    refine wpS_bind (wpS_lift (wpAny_rule ⟨rfl, ?_⟩))
    refine wpS_bind (desc_ok (key := key) hz (by omega) (by omega) C1 (fun x n neq st' R C' a b c r1 r2 r3 r4 => wpS_bind (stp st' n _ C'.kp a b fun c1 e1 => ?_)) D1 fun m neq st2 C2 m1 m2 D2 q1 q2 => ?_)
    · cases c1 with
      | true =>
        dsimp only
        rw [if_pos rfl]
        refine ite_ok (fun hq => wpS_bind (wpS_reverse (wpS_pure ?_))) fun hq => wpS_pure (r2 e1 hq)
        rw [show lo + n - (neq + 1) = lo + (n - (neq + 1)) by omega]
        exact r1 e1 hq
      | false =>
        dsimp only
        rw [if_neg Bool.false_ne_true]
        refine wpS_bind (ltAt_ok (key := key) L g C'.kp (show lo + n - 1 = lo + (n - 1) by omega) rfl (by omega) (by omega) ?_)
        dsimp only
        exact ite_ok (fun hq => wpS_pure (r3 e1 hq)) fun hq => wpS_pure (r4 e1 (by simpa using hq))
    · dsimp only
      have hsz2 : lo + m ≤ (arrOf st2).size := by rw [C2.kp.size]; omega
      have tl : ∀ st3, Cr κ a₀ st lo nrem st3 → Dec O key (arrOf st3) lo m → Inc O key (arrOf (setArr st3 (mirror (arrOf st3) (lo + 0) (lo + m) ((lo + m - (lo + 0)) / 2)))) lo m := fun st3 C3 D3 i j hij hj => by
        show O.kle (kk key (mirror (arrOf st3) _ _ _) lo i) (kk key (mirror (arrOf st3) _ _ _) lo j)
        have hsz3 : lo + m ≤ (arrOf st3).size := by rw [C3.kp.size]; omega
        rw [kk_mir hsz3, kk_mir hsz3, if_pos (by omega), if_pos (by omega)]
        exact D3 _ _ (by omega) (by omega)
      refine ite_ok (fun hq => wpS_bind (wpS_reverse ?_)) (fun hq => ?_)
      · have C3 := C2.mir (x := m - (neq + 1)) (y := m) m2 hz
        rw [show lo + m - (neq + 1) = lo + (m - (neq + 1)) by omega]
        have D3 : Dec O key (arrOf (setArr st2 (mirror (arrOf st2) (lo + (m - (neq + 1))) (lo + m) ((lo + m - (lo + (m - (neq + 1)))) / 2)))) lo m := dec_congr D2 (kk_mir_eq hsz2 q2)
        revert C3 D3
        generalize setArr st2 (mirror (arrOf st2) (lo + (m - (neq + 1))) (lo + m) ((lo + m - (lo + (m - (neq + 1)))) / 2)) = st3
        intro C3 D3
        refine wpS_bind (wpS_reverse ?_)
        have C4 := Cr.mir (x := 0) C3 m2 hz
        have D4 := tl st3 C3 D3
        refine wpS_bind (asc_ok (key := key) (lo := lo) (st := setArr st3 (mirror (arrOf st3) (lo + 0) (lo + m) ((lo + m - (lo + 0)) / 2))) (by omega) m2 (fun x n R a b r1 r2 => wpS_bind (stp _ n _ C4.kp a b fun c e => ?_)) D4 fun n n1 n2 hs hor => wpS_pure (h n _ C4 (by omega) n2 hs))
        cases c with
        | true => exact wpS_pure (r1 e)
        | false => exact wpS_pure (r2 e)
      · refine wpS_bind (wpS_reverse ?_)
        have C4 := Cr.mir (x := 0) C2 m2 hz
        have D4 := tl st2 C2 D2
        refine wpS_bind (asc_ok (key := key) (lo := lo) (st := setArr st2 (mirror (arrOf st2) (lo + 0) (lo + m) ((lo + m - (lo + 0)) / 2))) (by omega) m2 (fun x n R a b r1 r2 => wpS_bind (stp _ n _ C4.kp a b fun c e => ?_)) D4 fun n n1 n2 hs hor => wpS_pure (h n _ C4 (by omega) n2 hs))
        cases c with
        | true => exact wpS_pure (r1 e)
        | false => exact wpS_pure (r2 e)
  · have hn1' : n = 1 := by omega
    subst hn1'
    have C1 := C0
    have D1 : Dec O key (arrOf st) lo (1 + 1) := dec_snoc (fun i j hij hj => (show i = j by omega) ▸ O.irrefl _) (Nat.le_refl 1) (KeyOrd.kle_of_klt hlt)
    refine wpS_bind (wpS_lift (wpAny_rule ⟨rfl, ?_⟩))
    refine wpS_bind (desc_ok (key := key) hz (by omega) (by omega) C1 (fun x n neq st' R C' a b c r1 r2 r3 r4 => wpS_bind (stp st' n _ C'.kp a b fun c1 e1 => ?_)) D1 fun m neq st2 C2 m1 m2 D2 q1 q2 => ?_)
    · cases c1 with
      | true =>
        dsimp only
        rw [if_pos rfl]
        refine ite_ok (fun hq => wpS_bind (wpS_reverse (wpS_pure ?_))) fun hq => wpS_pure (r2 e1 hq)
        rw [show lo + n - (neq + 1) = lo + (n - (neq + 1)) by omega]
        exact r1 e1 hq
      | false =>
        dsimp only
        rw [if_neg Bool.false_ne_true]
        refine wpS_bind (ltAt_ok (key := key) L g C'.kp (show lo + n - 1 = lo + (n - 1) by omega) rfl (by omega) (by omega) ?_)
        dsimp only
        exact ite_ok (fun hq => wpS_pure (r3 e1 hq)) fun hq => wpS_pure (r4 e1 (by simpa using hq))
    · dsimp only
      have hsz2 : lo + m ≤ (arrOf st2).size := by rw [C2.kp.size]; omega
      have tl : ∀ st3, Cr κ a₀ st lo nrem st3 → Dec O key (arrOf st3) lo m → Inc O key (arrOf (setArr st3 (mirror (arrOf st3) (lo + 0) (lo + m) ((lo + m - (lo + 0)) / 2)))) lo m := fun st3 C3 D3 i j hij hj => by
        show O.kle (kk key (mirror (arrOf st3) _ _ _) lo i) (kk key (mirror (arrOf st3) _ _ _) lo j)
        have hsz3 : lo + m ≤ (arrOf st3).size := by rw [C3.kp.size]; omega
        rw [kk_mir hsz3, kk_mir hsz3, if_pos (by omega), if_pos (by omega)]
        exact D3 _ _ (by omega) (by omega)
      refine ite_ok (fun hq => wpS_bind (wpS_reverse ?_)) (fun hq => ?_)
      · have C3 := C2.mir (x := m - (neq + 1)) (y := m) m2 hz
        rw [show lo + m - (neq + 1) = lo + (m - (neq + 1)) by omega]
        have D3 : Dec O key (arrOf (setArr st2 (mirror (arrOf st2) (lo + (m - (neq + 1))) (lo + m) ((lo + m - (lo + (m - (neq + 1)))) / 2)))) lo m := dec_congr D2 (kk_mir_eq hsz2 q2)
        revert C3 D3
        generalize setArr st2 (mirror (arrOf st2) (lo + (m - (neq + 1))) (lo + m) ((lo + m - (lo + (m - (neq + 1)))) / 2)) = st3
        intro C3 D3
        refine wpS_bind (wpS_reverse ?_)
        have C4 := Cr.mir (x := 0) C3 m2 hz
        have D4 := tl st3 C3 D3
        refine wpS_bind (asc_ok (key := key) (lo := lo) (st := setArr st3 (mirror (arrOf st3) (lo + 0) (lo + m) ((lo + m - (lo + 0)) / 2))) (by omega) m2 (fun x n R a b r1 r2 => wpS_bind (stp _ n _ C4.kp a b fun c e => ?_)) D4 fun n n1 n2 hs hor => wpS_pure (h n _ C4 (by omega) n2 hs))
        cases c with
        | true => exact wpS_pure (r1 e)
        | false => exact wpS_pure (r2 e)
      · refine wpS_bind (wpS_reverse ?_)
        have C4 := Cr.mir (x := 0) C2 m2 hz
        have D4 := tl st2 C2 D2
        refine wpS_bind (asc_ok (key := key) (lo := lo) (st := setArr st2 (mirror (arrOf st2) (lo + 0) (lo + m) ((lo + m - (lo + 0)) / 2))) (by omega) m2 (fun x n R a b r1 r2 => wpS_bind (stp _ n _ C4.kp a b fun c e => ?_)) D4 fun n n1 n2 hs hor => wpS_pure (h n _ C4 (by omega) n2 hs))
        cases c with
        | true => exact wpS_pure (r1 e)
        | false => exact wpS_pure (r2 e)
theorem binarySort_ok {st : SortSt} {lo n ok : Nat} {Q : Bool → SortSt → Prop} (L : LtOk prog w A E s κ O key Good) (g : ∀ x ∈ a₀.toList, Good x) (K : Kp κ a₀ st) (hz : lo + n ≤ a₀.size) (hok : ok ≤ n) (hs : Inc O key (arrOf st) lo ok)
    (h : ∀ st', Cr κ a₀ st lo n st' → Inc O key (arrOf st') lo n → Q true st') : wpS (model prog w) A E s (binarySort' lo n ok) Q st := by
  unfold binarySort'
  refine wpS_bind (wpS_mono (wpS_forRange (I := fun x c z => c = (none, ()) ∧ Cr κ a₀ st lo n z ∧ Inc O key (arrOf z) lo (min x n)) (Q := fun c z => c = (none, ()) ∧ Cr κ a₀ st lo n z ∧ Inc O key (arrOf z) lo n) (fun k c z l1 l2 => ?_) (fun c z => ?_) ⟨rfl, ⟨K, rfl, Frm.refl _ _ _⟩, ?_⟩) fun c z => ?_)
  · rintro ⟨rfl, C, up⟩
    obtain ek : min k n = k := by omega
    rw [ek] at up
    obtain ⟨kf, kn⟩ : lo + k < a₀.size ∧ lo + k < (arrOf z).size := ⟨by omega, by rw [C.kp.size]; omega⟩
    refine wpS_bind (wpS_mono (wpS_forRange
      (I := fun x c y => y = z ∧ ∃ u v, c = (none, u, v) ∧ u ≤ v ∧ v ≤ k ∧ v - u + x ≤ k ∧ (∀ i, i < u → O.kle (kk key (arrOf z) lo i) (kk key (arrOf z) lo k)) ∧ ∀ i, v ≤ i → i < k → O.klt (kk key (arrOf z) lo k) (kk key (arrOf z) lo i))
      (Q := fun c y => y = z ∧ ∃ u v, c = (none, u, v) ∧ u ≤ k ∧ (∀ i, i < u → O.kle (kk key (arrOf z) lo i) (kk key (arrOf z) lo k)) ∧ ∀ i, u ≤ i → i < k → O.klt (kk key (arrOf z) lo k) (kk key (arrOf z) lo i))
      (fun x c y _ l3 => ?_) (fun c y => ?_) ⟨rfl, 0, k, rfl, Nat.zero_le k, Nat.le_refl k, by omega, fun _ q => absurd q (Nat.not_lt_zero _), fun _ q1 q2 => absurd q2 (by omega)⟩) fun c y => ?_)
    · rintro ⟨rfl, u, v, rfl, uv, vk, le, below, above⟩
      dsimp only
      refine ite_ok (fun q => ?_) (fun q => wpS_bind (ltAt_ok (key := key) L g C.kp rfl rfl kf (by omega) ?_))
      · obtain rfl : u = v := by omega
        exact wpS_pure ⟨rfl, u, u, rfl, vk, below, above⟩
      · dsimp only
        refine ite_ok (fun q2 => wpS_pure ⟨rfl, u, (u + v) / 2, rfl, by omega, by omega, by omega, below, fun i i1 i2 => KeyOrd.klt_of_klt_of_kle q2 (up _ i i1 i2)⟩) (fun q2 => wpS_pure ⟨rfl, (u + v) / 2 + 1, v, rfl, by omega, by omega, by omega, fun i i1 => ?_, above⟩)
        refine KeyOrd.kle_trans (up i ((u + v) / 2) (by omega) (by omega)) ?_
        exact KeyOrd.kle_of_not_klt q2
    · rintro ⟨rfl, u, v, rfl, uv, vk, le, below, above⟩
      obtain rfl : u = v := by omega
      exact ⟨rfl, u, u, rfl, vk, below, above⟩
    · rintro ⟨rfl, u, v, rfl, uk, below, above⟩
      refine wpS_bind (wpS_modify (wpS_pure ⟨rfl, C.bub uk l2 hz, ?_⟩))
      obtain e1 : min (k + 1) n = k + 1 := by omega
      rw [e1]
      intro i j hij hj
      show O.kle (kk key (bubble (arrOf y) (lo + k) (lo + k - (lo + u))) lo i) (kk key (bubble (arrOf y) (lo + k) (lo + k - (lo + u))) lo j)
      rw [kk_bub kn uk, kk_bub kn uk]
      rcases Nat.lt_trichotomy i u with iu | iu | iu
      · rw [if_neg (by omega), if_neg (by omega)]
        rcases Nat.lt_trichotomy j u with ju | ju | ju
        · rw [if_neg (by omega), if_neg (by omega)]
          exact up i j hij (by omega)
        · rw [if_pos ju]
          exact below i iu
        · rw [if_neg (by omega), if_pos (by omega)]
          exact up i (j - 1) (by omega) (by omega)
      · rw [if_pos iu]
        rcases Nat.lt_or_ge u j with ju | ju
        · rw [if_neg (by omega), if_pos (by omega)]
          exact KeyOrd.kle_of_klt (above (j - 1) (by omega) (by omega))
        · rw [if_pos (by omega)]
          exact O.irrefl _
      · rw [if_neg (by omega), if_pos (by omega), if_neg (by omega), if_pos (by omega)]
        exact up (i - 1) (j - 1) (by omega) (by omega)
  · rintro ⟨e, C, up⟩
    obtain e1 : min (max (max ok 1) n) n = n := by omega
    rw [e1] at up
    exact ⟨e, C, up⟩
  · rcases Nat.lt_or_ge ok 1 with q | q
    · exact inc_one _ _ (by omega)
    · obtain e1 : min (max ok 1) n = ok := by omega
      rw [e1]
      exact hs
  · rintro ⟨rfl, C, up⟩
    exact wpS_pure (h z C up)
end
end Ts

/-! ### the sort of 64 items and more: all runs -/
namespace Ts
open PySem PyProof.Rows
/-- start and length of each pending run -/
def rl (p : Array (Nat × Nat × Nat)) : List (Nat × Nat) := p.toList.map fun t => (t.1, t.2.1)
section
variable {O : KeyOrd} {key : Keyed → O.α}
/-- sorted runs, one next to the other, from lo to hi -/
def Rn (O : KeyOrd) (key : Keyed → O.α) (a : Array Keyed) : Nat → List (Nat × Nat) → Nat → Prop
  | lo, [], hi => lo = hi
  | lo, t :: l, hi => t.1 = lo ∧ 0 < t.2 ∧ (sg a lo t.2).Pairwise (Le O key) ∧ Rn O key a (lo + t.2) l hi
theorem Rn.le {a : Array Keyed} : ∀ {l : List (Nat × Nat)} {lo hi : Nat}, Rn O key a lo l hi → lo + l.length ≤ hi
  | [], _, _, h => Nat.le_of_eq h
  | _ :: l, _, _, ⟨_, h2, _, h4⟩ => by
    have := Rn.le h4
    rw [List.length_cons]
    omega
theorem Rn.keep {a b : Array Keyed} : ∀ {l : List (Nat × Nat)} {lo hi : Nat}, Rn O key a lo l hi → (∀ i, lo ≤ i → i < hi → b[i]? = a[i]?) → Rn O key b lo l hi
  | [], _, _, h, _ => h
  | t :: l, lo, hi, ⟨h1, h2, h3, h4⟩, e => by
    have := Rn.le h4
    refine ⟨h1, h2, ?_, Rn.keep h4 fun i i1 i2 => e i (by omega) i2⟩
    rw [sg_congr (b := a) fun i hi => e _ (by omega) (by omega)]
    exact h3
theorem Rn.app {a : Array Keyed} : ∀ {l m : List (Nat × Nat)} {lo mid hi : Nat}, Rn O key a lo l mid → Rn O key a mid m hi → Rn O key a lo (l ++ m) hi
  | [], _, _, _, _, h, k => by cases h; exact k
  | _ :: l, _, _, _, _, ⟨h1, h2, h3, h4⟩, k => ⟨h1, h2, h3, Rn.app h4 k⟩
theorem Rn.split {a : Array Keyed} : ∀ {l m : List (Nat × Nat)} {lo hi : Nat}, Rn O key a lo (l ++ m) hi → ∃ mid, Rn O key a lo l mid ∧ Rn O key a mid m hi
  | [], _, lo, _, h => ⟨lo, rfl, h⟩
  | _ :: l, _, _, _, ⟨h1, h2, h3, h4⟩ => by
    obtain ⟨mid, q1, q2⟩ := Rn.split h4
    exact ⟨mid, ⟨h1, h2, h3, q1⟩, q2⟩
theorem Rn.push {a b : Array Keyed} {l : List (Nat × Nat)} {lo hi n : Nat} (h : Rn O key a lo l hi) (e : ∀ i, lo ≤ i → i < hi → b[i]? = a[i]?) (hn : 0 < n) (hs : (sg b hi n).Pairwise (Le O key)) : Rn O key b lo (l ++ [(hi, n)]) (hi + n) :=
  Rn.app (h.keep e) ⟨rfl, hn, hs, rfl⟩
theorem rl_push (p : Array (Nat × Nat × Nat)) (t : Nat × Nat × Nat) : rl (p.push t) = rl p ++ [(t.1, t.2.1)] := by
  unfold rl
  rw [Array.toList_push, List.map_append]
  rfl
theorem rl_len (p : Array (Nat × Nat × Nat)) : (rl p).length = p.size := by
  unfold rl
  rw [List.length_map, Array.length_toList]
theorem rl_mod (p : Array (Nat × Nat × Nat)) (i : Nat) (f : Nat × Nat × Nat → Nat × Nat × Nat) (hf : ∀ t, ((f t).1, (f t).2.1) = (t.1, t.2.1)) : rl (p.modify i f) = rl p := by
  unfold rl
  apply List.ext_getElem?
  intro j
  simp only [List.getElem?_map, Array.getElem?_toList, Array.getElem?_modify]
  split
  · cases p[j]? with
    | none => rfl
    | some t => simp only [Option.map_some]; rw [hf t]
  · rfl
/-- the pending runs parted at two neighbours -/
theorem two_at {p : Array (Nat × Nat × Nat)} {i : Nat} (h : i + 1 < p.size) : ∃ l t u m, p.toList = l ++ t :: u :: m ∧ l.length = i ∧ p[i]? = some t ∧ p[i + 1]? = some u := by
  refine ⟨p.toList.take i, p[i], p[i + 1], p.toList.drop (i + 2), ?_, by rw [List.length_take, Array.length_toList]; omega, by simp, by simp⟩
  have e1 : p.toList.drop i = p[i] :: p.toList.drop (i + 1) := by rw [List.drop_eq_getElem_cons (by simpa using (by omega : i < p.size))]; rfl
  have e2 : p.toList.drop (i + 1) = p[i + 1] :: p.toList.drop (i + 2) := by rw [List.drop_eq_getElem_cons (by simpa using h)]; rfl
  rw [← e2, ← e1, List.take_append_drop]
theorem rl_two {p : Array (Nat × Nat × Nat)} {i : Nat} {l m : List (Nat × Nat × Nat)} {t u v : Nat × Nat × Nat} (e : p.toList = l ++ t :: u :: m) (hl : l.length = i) :
    ((p.setIfInBounds i v).eraseIdxIfInBounds (i + 1)).toList = l ++ v :: m := by
  subst hl
  rw [Array.toList_eraseIdxIfInBounds, Array.toList_setIfInBounds, e, List.set_append_right _ _ (Nat.le_refl _), Nat.sub_self, List.set_cons_zero, List.eraseIdx_append_of_length_le (by omega), Nat.add_sub_cancel_left]
  rfl
end
section
variable {prog : Program} {w : World} {A : Around} {E : Value → Shared → Prop} {s : Shared} {κ : SortKind} {O : KeyOrd} {key : Keyed → O.α} {Good : Keyed → Prop} {a₀ : Array Keyed}
/-- the runs found up to hi, and the rest as it was -/
structure Pd (κ : SortKind) (O : KeyOrd) (key : Keyed → O.α) (a₀ : Array Keyed) (hi : Nat) (st : SortSt) : Prop where
  kp : Kp κ a₀ st
  run : Rn O key (arrOf st) 0 (rl (pendingOf st)) hi
  fits : hi ≤ a₀.size
theorem mergeTwo_ok {st : SortSt} {hi i : Nat} {Q : Bool → SortSt → Prop} (L : LtOk prog w A E s κ O key Good) (g : ∀ x ∈ a₀.toList, Good x) (P : Pd κ O key a₀ hi st) (hi' : i + 1 < (pendingOf st).size)
    (h : ∀ st', Pd κ O key a₀ hi st' → (pendingOf st').size + 1 = (pendingOf st).size → (∀ i, hi ≤ i → (arrOf st')[i]? = (arrOf st)[i]?) → Q true st') : wpS (model prog w) A E s (mergeAt' i) Q st := by
  obtain ⟨l, ⟨sa, na, p⟩, ⟨sb, nb, q⟩, m, ep, hl, e1, e2⟩ := two_at hi'
  have R := P.run
  unfold rl at R
  rw [ep, List.map_append] at R
  obtain ⟨mid, R1, r1, r2, r3, r4, r5, r6, R2⟩ := Rn.split R
  dsimp only at r1 r2 r3 r4 r5 r6 R2
  subst r1
  subst r4
  have lim := Rn.le R2
  refine mergeAt_ok L g P.kp e1 e2 r2 r5 (by have := P.fits; omega) r3 r6 fun st' K' e3 sS fr => h st' ⟨K', ?_, P.fits⟩ ?_ fun i i1 => fr i (by omega)
  · unfold rl
    rw [e3, rl_two ep hl, List.map_append]
    refine Rn.app (R1.keep fun i i1 i2 => fr i (by omega)) ⟨rfl, by show 0 < na + nb; omega, sS, ?_⟩
    show Rn O key (arrOf st') (sa + (na + nb)) _ hi
    rw [← Nat.add_assoc]
    exact R2.keep fun i i1 i2 => fr i (by omega)
  · have l1 := congrArg List.length (rl_two (v := (sa, na + nb, p)) ep hl)
    have l2 := congrArg List.length ep
    rw [← e3] at l1
    rw [Array.length_toList] at l1 l2
    rw [l1, l2, List.length_append, List.length_append]
    simp only [List.length_cons]
    omega
theorem Pd.kpSet {st : SortSt} {hi : Nat} {p : Array (Nat × Nat × Nat)} (P : Pd κ O key a₀ hi st) (e : rl p = rl (pendingOf st)) : Pd κ O key a₀ hi (setPending st p) :=
  ⟨⟨P.kp.kind, P.kp.perm, P.kp.fail⟩, by
    show Rn O key (arrOf st) 0 (rl p) hi
    rw [e]
    exact P.run, P.fits⟩
theorem Pd.push {st : SortSt} {lo n q : Nat} (P : Pd κ O key a₀ lo st) (hn : 1 ≤ n) (hf : lo + n ≤ a₀.size) (S : (sg (arrOf st) lo n).Pairwise (Le O key)) : Pd κ O key a₀ (lo + n) (setPending st ((pendingOf st).push (lo, n, q))) :=
  ⟨⟨P.kp.kind, P.kp.perm, P.kp.fail⟩, by
    show Rn O key (arrOf st) 0 (rl ((pendingOf st).push (lo, n, q))) (lo + n)
    rw [rl_push]
    exact P.run.push (fun _ _ _ => rfl) hn S, hf⟩
theorem sortRuns_ok {st : SortSt} {Q : Unit → SortSt → Prop} (L : LtOk prog w A E s κ O key Good) (g : ∀ x ∈ a₀.toList, Good x) (K : Kp κ a₀ st) (h0 : pendingOf st = #[]) (h1 : 1 ≤ a₀.size)
    (h : ∀ st', Kp κ a₀ st' → (arrOf st').toList.Pairwise (Le O key) → Q () st') : wpS (model prog w) A E s sortRuns' Q st := by
  rw [sortRuns'_eq]
  refine wpS_bind (wpS_get ?_)
  dsimp only
  rw [K.size]
  have P0 : Pd κ O key a₀ 0 st := ⟨K, by rw [h0]; rfl, Nat.zero_le _⟩
  refine wpS_bind (wpS_mono (wpS_forRange (I := fun x c z => ∃ lo, c = (none, lo) ∧ Pd κ O key a₀ lo z ∧ (x ≤ lo ∨ lo = a₀.size)) (Q := fun c z => c = (none, a₀.size) ∧ Pd κ O key a₀ a₀.size z) (fun x c z l1 l2 => ?_) (fun c z => ?_) ⟨0, rfl, P0, .inl (Nat.le_refl 0)⟩) fun c z => ?_)
  · rintro ⟨lo, rfl, P, le⟩
    dsimp only
    refine ite_ok (fun q => wpS_pure ?_) (fun q => ?_)
    · obtain rfl : lo = a₀.size := by have := P.fits; omega
      exact ⟨rfl, P⟩
    have old : ∀ {n : Nat} {z' : SortSt}, Cr κ a₀ z lo n z' → Pd κ O key a₀ lo z' := fun C => ⟨C.kp, by rw [C.pend]; exact P.run.keep fun i _ i2 => C.frm i (by omega), P.fits⟩
    refine wpS_bind (countRun_ok L g P.kp (by omega) (by omega) fun m z1 C1 m1 m2 up1 => ?_)
    dsimp only
    refine ite_ok (fun mr => ?_) (fun _ => ?_)
    · refine wpS_bind (wpS_lift (wpAny_rule ⟨rfl, ?_⟩))
      refine wpS_bind (binarySort_ok L g C1.kp (by omega) (by omega) up1 fun z2 C2 up2 => ?_)
      have hn : 1 ≤ min (a₀.size - lo) (minRun' a₀.size a₀.size 0) := by omega
      have hf : lo + min (a₀.size - lo) (minRun' a₀.size a₀.size 0) ≤ a₀.size := by omega
      rw [if_neg (by simp)]
      have P2 : Pd κ O key a₀ lo z2 := old (n := a₀.size - lo) ⟨C2.kp, C2.pend.trans C1.pend, C1.frm.trans fun i hi => C2.frm i (by omega)⟩
      refine wpS_bind (wpS_get ?_)
      cases eb : (pendingOf z2).back? with
      | none =>
        dsimp only
        exact wpS_bind (wpS_modify (wpS_pure ⟨lo + (min (a₀.size - lo) (minRun' a₀.size a₀.size 0)), rfl, Pd.push P2 hn hf (inc_seg up2), .inl (by omega)⟩))
      | some t =>
        obtain ⟨s1, n1, pw⟩ := t
        dsimp only
        refine wpS_bind (wpS_mono (wpS_forRange (I := fun _ c y => c = (none, ()) ∧ Pd κ O key a₀ lo y ∧ (sg (arrOf y) lo (min (a₀.size - lo) (minRun' a₀.size a₀.size 0))).Pairwise (Le O key)) (Q := fun c y => c = (none, ()) ∧ Pd κ O key a₀ lo y ∧ (sg (arrOf y) lo (min (a₀.size - lo) (minRun' a₀.size a₀.size 0))).Pairwise (Le O key)) (fun x' c y _ _ => ?_) (fun _ _ hh => hh) ⟨rfl, P2, (inc_seg up2)⟩) fun c y => ?_)
        · rintro ⟨rfl, P2, S2⟩
          refine wpS_bind (wpS_get ?_)
          by_cases q2 : (pendingOf y).size > 1
          · obtain ⟨t, et⟩ : ∃ t, (pendingOf y)[(pendingOf y).size - 2]? = some t := ⟨_, getElem?_pos _ _ (by omega)⟩
            rw [if_pos q2, et]
            dsimp only
            refine ite_ok (fun _ => wpS_pure ⟨rfl, P2, S2⟩) fun _ => wpS_bind (mergeTwo_ok L g P2 (by omega) fun y' P3 _ fr => ?_)
            rw [if_neg (by simp)]
            refine wpS_pure ⟨rfl, P3, ?_⟩
            rw [sg_congr (b := arrOf y) fun i _ => fr _ (Nat.le_add_right lo i)]
            exact S2
          · rw [if_neg q2]
            exact wpS_pure ⟨rfl, P2, S2⟩
        · rintro ⟨rfl, P2, S2⟩
          dsimp only
          refine wpS_bind (wpS_modify (wpS_bind (wpS_modify (wpS_pure ⟨lo + (min (a₀.size - lo) (minRun' a₀.size a₀.size 0)), rfl, ?_, .inl (by omega)⟩))))
          exact Pd.push (P2.kpSet (rl_mod _ _ _ fun _ => rfl)) hn hf S2
    · have hn : 1 ≤ m := m1
      have hf : lo + m ≤ a₀.size := by omega
      refine wpS_bind (wpS_get ?_)
      cases eb : (pendingOf z1).back? with
      | none =>
        dsimp only
        exact wpS_bind (wpS_modify (wpS_pure ⟨lo + m, rfl, Pd.push (old C1) hn hf (inc_seg up1), .inl (by omega)⟩))
      | some t =>
        obtain ⟨s1, n1, pw⟩ := t
        dsimp only
        refine wpS_bind (wpS_mono (wpS_forRange (I := fun _ c y => c = (none, ()) ∧ Pd κ O key a₀ lo y ∧ (sg (arrOf y) lo m).Pairwise (Le O key)) (Q := fun c y => c = (none, ()) ∧ Pd κ O key a₀ lo y ∧ (sg (arrOf y) lo m).Pairwise (Le O key)) (fun x' c y _ _ => ?_) (fun _ _ hh => hh) ⟨rfl, (old C1), (inc_seg up1)⟩) fun c y => ?_)
        · rintro ⟨rfl, P2, S2⟩
          refine wpS_bind (wpS_get ?_)
          by_cases q2 : (pendingOf y).size > 1
          · obtain ⟨t, et⟩ : ∃ t, (pendingOf y)[(pendingOf y).size - 2]? = some t := ⟨_, getElem?_pos _ _ (by omega)⟩
            rw [if_pos q2, et]
            dsimp only
            refine ite_ok (fun _ => wpS_pure ⟨rfl, P2, S2⟩) fun _ => wpS_bind (mergeTwo_ok L g P2 (by omega) fun y' P3 _ fr => ?_)
            rw [if_neg (by simp)]
            refine wpS_pure ⟨rfl, P3, ?_⟩
            rw [sg_congr (b := arrOf y) fun i _ => fr _ (Nat.le_add_right lo i)]
            exact S2
          · rw [if_neg q2]
            exact wpS_pure ⟨rfl, P2, S2⟩
        · rintro ⟨rfl, P2, S2⟩
          dsimp only
          refine wpS_bind (wpS_modify (wpS_bind (wpS_modify (wpS_pure ⟨lo + m, rfl, ?_, .inl (by omega)⟩))))
          exact Pd.push (P2.kpSet (rl_mod _ _ _ fun _ => rfl)) hn hf S2
  · rintro ⟨lo, rfl, P, le⟩
    obtain rfl : lo = a₀.size := by have := P.fits; omega
    exact ⟨rfl, P⟩
  · rintro ⟨rfl, P⟩
    dsimp only
    have few : (pendingOf z).size ≤ a₀.size := by have := Rn.le P.run; rw [rl_len] at this; omega
    refine wpS_bind (wpS_mono (wpS_forRange (I := fun x c y => c = (none, ()) ∧ Pd κ O key a₀ a₀.size y ∧ (pendingOf y).size + x ≤ a₀.size + 1) (Q := fun c y => c = (none, ()) ∧ Pd κ O key a₀ a₀.size y ∧ (pendingOf y).size ≤ 1) (fun x c y _ l2 => ?_) (fun c y => ?_) ⟨rfl, P, by omega⟩) fun c y => ?_)
    · rintro ⟨rfl, P2, le⟩
      refine wpS_bind (wpS_get ?_)
      refine ite_ok (fun q => wpS_pure ⟨rfl, P2, q⟩) fun q => ?_
      have go : ∀ i, i + 1 < (pendingOf y).size → wpS (model prog w) A E s (mergeAt' i) (fun b z => b = true ∧ Pd κ O key a₀ a₀.size z ∧ (pendingOf z).size + (x + 1) ≤ a₀.size + 1) y := fun i hi =>
        mergeTwo_ok L g P2 hi fun z P3 e _ => ⟨rfl, P3, by omega⟩
      refine wpS_bind (wpS_mono (go _ ?_) ?_)
      · have pick : ∀ (c : Prop) [Decidable c], (if c then (pendingOf y).size - 2 - 1 else (pendingOf y).size - 2) + 1 < (pendingOf y).size := fun c _ => by split <;> omega
        exact pick _
      · rintro b z ⟨rfl, P3, e⟩
        rw [if_neg (by simp)]
        exact wpS_pure ⟨rfl, P3, e⟩
    · rintro ⟨rfl, P2, le⟩
      exact ⟨rfl, P2, by omega⟩
    · rintro ⟨rfl, P2, le⟩
      refine wpS_pure (h y P2.kp ?_)
      have R := P2.run
      have sz := P2.kp.size
      rw [← rl_len] at le
      revert R le
      generalize rl (pendingOf y) = l
      intro le R
      match l, le, R with
      | [], _, R => exact absurd (show 0 = a₀.size from R) (by omega)
      | [t], _, ⟨_, _, R3, R4⟩ =>
        have e : t.2 = (arrOf y).size := by rw [sz]; simpa [Rn] using R4
        rw [e] at R3
        have : sg (arrOf y) 0 (arrOf y).size = (arrOf y).toList := by
          unfold sg
          rw [List.drop_zero, List.take_of_length_le (by simp)]
        rw [this] at R3
        exact R3
      | _ :: _ :: _, le, _ => simp at le
end
end Ts

/-! ### list.sort of tuples of ints, however many -/
namespace Sx
open PySem PySem.W PyProof.Rows
theorem ints_inj : ∀ {vs : List Value} {ns ms : List Int}, IntsAre vs ns → IntsAre vs ms → ns = ms
  | _, _, _, .nil, .nil => rfl
  | _, _, _, .cons _ _ a, .cons _ _ b => by rw [ints_inj a b]
theorem TupI.inj {h : Heap} {a : Addr} {t u : List Int} (x : TupI h a t) (y : TupI h a u) : t = u := by
  obtain ⟨o, its, n, e1, _, e2, e3⟩ := x
  obtain ⟨o', its', n', f1, _, f2, f3⟩ := y
  rw [e1] at f1
  cases f1
  rw [e2] at f2
  cases f2
  exact ints_inj e3 f3
open Classical in
/-- the numbers of the tuple at r -/
noncomputable def tOf (h : Heap) (r : Addr) : List Int := if q : ∃ t, TupI h r t then Classical.choose q else []
theorem tOf_eq {h : Heap} {r : Addr} {t : List Int} (x : TupI h r t) : tOf h r = t := by
  have q : ∃ t, TupI h r t := ⟨t, x⟩
  unfold tOf
  rw [dif_pos q]
  exact (Classical.choose_spec q).inj x
noncomputable def kf (h : Heap) (x : Keyed) : List Int := match x.1 with | .ref r => tOf h r | _ => []
def dup (r : Addr) : Keyed := (.ref r, .ref r)
def und (x : Keyed) : Addr := match x.2 with | .ref r => r | _ => 0
section
variable {prog : Program} {w : World} {A : Around} {E : Value → Shared → Prop} {s : Shared}
theorem lt_ok {b : Bool} : Ts.LtOk prog w A E s (tuples' b) lexO (kf s.heap) (fun x => ∃ r t, x = dup r ∧ TupI s.heap r t) := by
  rintro x y ⟨r, t, rfl, hr⟩ ⟨q, u, rfl, hq⟩ Q st hk h
  rw [lt'_eq]
  refine wpS_bind (wpS_get ?_)
  rw [hk]
  refine wpS_bind (wpS_lift (wpAny_attempt (lt_tups hr hq ⟨rfl, ?_⟩)))
  refine wpS_pure ?_
  have e1 : kf s.heap (dup r) = t := tOf_eq hr
  have e2 : kf s.heap (dup q) = u := tOf_eq hq
  rw [e1, e2] at h
  exact h
theorem zip_dup (rs : List Addr) : ((rs.map Value.ref).toArray.zip (rs.map Value.ref).toArray).toList = rs.map dup := by
  simp only [Array.toList_zip, List.toList_toArray]
  rw [List.zip_map']
  rfl
theorem ts_of {h : Heap} : ∀ {rs : List Addr} {ts : List (List Int)}, Paired (fun r t => TupI h r t ∧ t ≠ []) rs ts → ts = rs.map (tOf h)
  | _, _, .nil => rfl
  | _, _, .cons x t => by rw [List.map_cons, ← ts_of t, tOf_eq x.1]
theorem zip_self {f : Addr → List Int} : ∀ (l : List Addr), l.zip (l.map f) = l.map fun r => (r, f r)
  | [] => rfl
  | _ :: l => by rw [List.map_cons, List.zip_cons_cons, zip_self l, List.map_cons]
theorem sorted_dup {h : Heap} {rs : List Addr} {ts : List (List Int)} {l : List Keyed} (hp : Paired (fun r t => TupI h r t ∧ t ≠ []) rs ts) (pm : l.Perm (rs.map dup)) (pw : l.Pairwise (Ts.Le lexO (kf h))) :
    Sorted rs ts (l.map und) ((l.map und).map (tOf h)) ∧ l = (l.map und).map dup := by
  have e0 : ∀ m : List Addr, (m.map dup).map und = m := fun m => by rw [List.map_map]; exact (List.map_congr_left fun _ _ => rfl).trans (List.map_id _)
  have back : l = (l.map und).map dup := by
    rw [List.map_map]
    refine (List.map_id _).symm.trans (List.map_congr_left fun x hx => ?_)
    obtain ⟨r, _, rfl⟩ := List.mem_map.mp (pm.mem_iff.mp hx)
    rfl
  have pr : (l.map und).Perm rs := by
    have := pm.map und
    rwa [e0] at this
  refine ⟨⟨?_, by simp, ?_⟩, back⟩
  · rw [zip_self, ts_of hp, zip_self]
    exact pr.map _
  · rw [List.pairwise_map]
    rw [back, List.pairwise_map] at pw
    exact pw.imp fun q => q
/-- list.sort of a list of tuples of ints, however long -/
theorem sort_treeB {a : Addr} {rs : List Addr} {ts : List (List Int)} {n : Nat} {P : PySem.Fin → Shared → Prop} (ho : s.heap.get? a = some (seqObj "list" (rs.map Value.ref).toArray n)) (hb : rs.length ≤ 1000000)
    (hp : Paired (fun r t => TupI s.heap r t ∧ t ≠ []) rs ts) (hna : a ∉ rs)
    (h : ∀ rs' ts' h' c, Sorted rs ts rs' ts' → (∀ b o, b ≠ a → s.heap.get? b = some o → h'.get? b = some o) → h'.get? a = some (seqObj "list" (rs'.map Value.ref).toArray c) → P (.done (.ret .none)) { s with heap := h' }) :
    wpAny (model prog w) A (Builtin.«list.sort» ⟨[.ref a], []⟩) P E s := by
  have hl : rs.length = ts.length := Paired.length hp
  have hlt : a < s.heap.objs.size := Heap.lt_size ho
  rw [list_sort_plain]
  refine wpAny_bind (listItems_at ho rfl (wpAny_bind (listUpdate_at ho rfl ?_ (by rw [List.size_toArray, List.length_map, sizeLine_eq]; omega) (Nat.zero_le _))))
  obtain ⟨e1, ho1⟩ : ∃ e1, (s.heap.update a (Obj.mapSeq fun _ => (#[] : Array Value))).get? a = some (seqObj "list" #[] e1) := ⟨_, get?_update_seq ho fun _ => #[]⟩
  have sb := Heap.SameBut.update s.heap a (Obj.mapSeq fun _ => (#[] : Array Value))
  refine wpAny_bind (seqEpoch_at ho1 rfl (wpAny_bind (wpAny_newTuple ?_ (by rw [Array.length_toList, List.size_toArray, List.length_map, sizeLine_eq]; omega))))
  refine wpAny_bind (wpAny_newList (wpAny_holding ?_) (Nat.zero_le _))
  generalize hh2 : (Heap.push (Heap.push (s.heap.update a (Obj.mapSeq fun _ => (#[] : Array Value))) _) _) = h2
  have old : ∀ b o, b ≠ a → s.heap.get? b = some o → h2.get? b = some o := fun b o hb e => by
    rw [← hh2]
    exact Heap.get?_push_of_some _ (Heap.get?_push_of_some _ ((sb.2 b hb).trans e))
  have ho2 : h2.get? a = some (seqObj "list" #[] e1) := by
    rw [← hh2]
    exact Heap.get?_push_of_some _ (Heap.get?_push_of_some _ ho1)
  have fin : ∀ (rs' : List Addr) (ts' : List (List Int)), Sorted rs ts rs' ts' → ∀ (out : Array Value), out = (rs'.map Value.ref).toArray →
      P (.done (.ret .none)) { s with heap := h2.update a (Obj.mapSeq fun _ => out) } := fun rs' ts' hS out eo => by
    subst eo
    refine h rs' ts' _ _ hS (fun b o hb e => ?_) (get?_update_seq ho2 fun _ => (rs'.map Value.ref).toArray)
    exact ((Heap.SameBut.update h2 a (Obj.mapSeq fun _ => (rs'.map Value.ref).toArray)).2 b hb).trans (old b o hb e)
  have hsz : (rs.map Value.ref).toArray.size = rs.length := by rw [List.size_toArray, List.length_map]
  dsimp only
  by_cases h2' : (rs.map Value.ref).toArray.size < 2
  · rw [if_pos h2', if_pos h2']
    refine wpAny_bind (wpAny_pure ?_)
    rw [StateT.run_pure]
    refine wpAny_bind (wpAny_pure ?_)
    dsimp only
    have eo : (arrOf (SortSt.mk' general' ((rs.map Value.ref).toArray.zip (rs.map Value.ref).toArray) #[] 7 none)).map (fun x => x.2) = (rs.map Value.ref).toArray := by
      show ((rs.map Value.ref).toArray.zip (rs.map Value.ref).toArray).map (fun x => x.2) = _
      apply Array.toList_inj.mp
      simp only [Array.toList_map, Array.toList_zip, List.toList_toArray]
      exact List.map_snd_zip (Nat.le_refl _)
    refine wpAny_bind (seqEpoch_at ho2 rfl (wpAny_bind (listUpdate_at ho2 rfl ?_ (Nat.zero_le _) (by rw [eo, hsz, sizeLine_eq]; omega))))
    simp only [bne_self_eq_false, Bool.false_eq_true, if_false]
    refine wpAny_pure (fin rs ts ⟨List.Perm.refl _, hl, ?_⟩ _ eo)
    rw [List.pairwise_iff_getElem]
    intro i j hi hj hij
    exfalso
    omega
  · rw [if_neg h2', if_neg h2']
    have hp2 : Paired (fun r t => TupI h2 r t ∧ t ≠ []) rs ts := by
      clear fin h
      have go : ∀ {l : List Addr} {m : List (List Int)}, Paired (fun r t => TupI s.heap r t ∧ t ≠ []) l m → (∀ r ∈ l, r ≠ a) → Paired (fun r t => TupI h2 r t ∧ t ≠ []) l m := by
        intro l m q
        induction q with
        | nil => intro _; exact .nil
        | cons hr _ ih => intro hn; exact .cons ⟨hr.1.keep fun o e => old _ o (hn _ (.head _)) e, hr.2⟩ (ih fun r hr' => hn r (.tail _ hr'))
      exact go hp fun r hr z => hna (z ▸ hr)
    refine wpAny_bind (kind_tups (s := { s with heap := h2 }) (by omega) hp2 fun b => ?_)
    have gd : ∀ x ∈ ((rs.map Value.ref).toArray.zip (rs.map Value.ref).toArray).toList, ∃ r t, x = dup r ∧ TupI h2 r t := fun x hx => by
      rw [zip_dup] at hx
      obtain ⟨r, hr, rfl⟩ := List.mem_map.mp hx
      obtain ⟨i, hi, e⟩ := List.getElem_of_mem hr
      obtain ⟨t, _, ht, _⟩ := pair_at (i := i) (a := r) hp2 (by rw [← e]; simp [hi])
      exact ⟨r, t, rfl, ht⟩
    have sz0 : ((rs.map Value.ref).toArray.zip (rs.map Value.ref).toArray).size = rs.length := by rw [← Array.length_toList, zip_dup, List.length_map]
    have run : wpS (model prog w) A E { s with heap := h2 } sortRuns' (fun _ st' => failedOf st' = none ∧ (arrOf st').toList.Perm (rs.map dup) ∧ (arrOf st').toList.Pairwise (Ts.Le lexO (kf h2))) (SortSt.mk' (tuples' b) ((rs.map Value.ref).toArray.zip (rs.map Value.ref).toArray) #[] 7 none) :=
      Ts.sortRuns_ok (a₀ := (rs.map Value.ref).toArray.zip (rs.map Value.ref).toArray) (lt_ok (s := { s with heap := h2 })) gd ⟨rfl, List.Perm.refl _, rfl⟩ rfl (by omega) fun st' K' pw => ⟨K'.fail, by rw [← zip_dup]; exact K'.perm, pw⟩
    refine wpAny_bind (wpAny_mono run ?_ fun _ _ e => e)
    rintro ⟨⟨⟩, st'⟩ s' ⟨rfl, hf, pm, pw⟩
    dsimp only at hf pm pw ⊢
    obtain ⟨hS, back⟩ := sorted_dup hp2 pm pw
    have eo : (arrOf st').map (fun x => x.2) = (((arrOf st').toList.map und).map Value.ref).toArray := by
      apply Array.toList_inj.mp
      rw [Array.toList_map, List.toList_toArray]
      generalize hl2 : (arrOf st').toList.map und = m at back ⊢
      rw [back, List.map_map]
      rfl
    refine wpAny_bind (seqEpoch_at ho2 rfl (wpAny_bind (listUpdate_at ho2 rfl ?_ (Nat.zero_le _) ?_)))
    · rw [hf]
      simp only [bne_self_eq_false, Bool.false_eq_true, if_false]
      exact wpAny_pure (fin _ _ hS _ eo)
    · show ((arrOf st').map (fun x => x.2)).size ≤ _
      have := pm.length_eq
      rw [List.length_map, Array.length_toList] at this
      rw [Array.size_map, this, sizeLine_eq]
      omega
end
end Sx

/-! ### sorted(..) of tuples of ints, however many -/
namespace L2
open PySem PySem.Spec PyProof.Rows
section
variable {X : Cx} {pins : List (Addr × Obj)} {σ : St} {H : Hp} {s : Shared}
/-- behind the copy: a new list of the tuples is sorted -/
theorem sort_newB {A : Around} {E : Value → Shared → Prop} {Q : Value → Shared → Prop} {rs : List Addr} {ts : List (List Int)} {h1 : Heap} {tk : Nat} (I : Inv X pins σ H s) (k1 : ∀ b o, s.heap.get? b = some o → h1.get? b = some o)
    (hp : TupsH H rs ts) (h64 : rs.length ≤ 1000000) (h : ∀ rs' ts' s' p, Sx.Sorted rs ts rs' ts' → H p = none → Inv X pins σ (upd H p (.lst (rs'.map V.ref))) s' → Q (.ref p) s') :
    wpAny (model X.prog X.w) A (newList (rs.map Value.ref)) (fun l s' => wpAny (model X.prog X.w) A (call (.builtin "list.sort") [l]) (fun _ s'' => Q l s'') E s') E { s with heap := h1, toks := tk } := by
  have I1 : Inv X pins σ H { s with heap := h1, toks := tk } := I.kept k1
  refine wpAny_newList ?_ (by rw [List.length_map, sizeLine_eq]; omega)
  have ho : (h1.push { cls := .type "list", data := .seq (rs.map Value.ref).toArray }).get? h1.objs.size = some (seqObj "list" (rs.map Value.ref).toArray 0) := Heap.get?_push_size _ rfl
  have hfr : H h1.objs.size = none := I1.hok.fresh (Nat.le_refl _)
  have hne : h1.objs.size ∉ rs := fun hm => by
    obtain ⟨i, hi, e⟩ := List.getElem_of_mem hm
    obtain ⟨t, _, q, _⟩ := Sx.pair_at (i := i) (a := h1.objs.size) hp (by rw [← e]; simp [hi])
    rw [hfr] at q; cases q
  have I2 : Inv X pins σ H { s with heap := h1.push { cls := .type "list", data := .seq (rs.map Value.ref).toArray }, toks := tk } := I1.kept fun b o e => Heap.get?_push_of_some _ e
  refine wpAny_call_entry slot_list_sort ⟨_, ho, rfl⟩ entry_list_sort (Sx.sort_treeB (s := { s with heap := h1.push { cls := .type "list", data := .seq (rs.map Value.ref).toArray }, toks := tk }) ho h64 (I2.tupsI hp) hne fun rs' ts' h' c hS hk hl => ⟨_, rfl, ?_⟩) (args_list_sort _)
  refine h rs' ts' _ h1.objs.size hS hfr (I1.laid (a := h1.objs.size) (fun b o e => hk b o (Nat.ne_of_lt (Heap.lt_size e)) (Heap.get?_push_of_some _ e)) (Nat.le_refl _) ?_)
  have hlen : rs'.length = rs.length := by
    have e := hS.perm.length_eq
    have e2 := hS.len
    have e3 := Paired.length hp
    simp only [List.length_zip] at e
    omega
  exact ⟨by rw [List.length_map, sizeLine_eq]; omega, rs'.map Value.ref, c, vals_refs rs', hl⟩
end
section
variable {X : Cx}
theorem call_sortedLB : CallR X (.builtin "sorted") (fun xs H Q => ∃ a rs ts, xs = [.ref a] ∧ SqL X.K H a (rs.map V.ref) ∧ rs.length ≤ 1000000 ∧ TupsH H rs ts ∧
    ∀ rs' ts' p, Sx.Sorted rs ts rs' ts' → H p = none → Q (.ref p) (upd H p (.lst (rs'.map V.ref)))) := by
  intro pins s σ H xs us Q I r h
  obtain ⟨a, rs, ts, rfl, hq, h64, hp, q⟩ := h
  obtain ⟨u, rfl, ru⟩ := vals1 r
  cases ru
  obtain ⟨its, rv, pl, hz⟩ := I.list hq
  have ei := refs_of rv
  subst ei
  refine Calls.call_function_entry kind_sorted plain_sorted entry_sorted (args_sorted1 _) ?_
  unfold Builtin.«sorted»
  refine wpAny_bind (m := checkCount "sorted" 1 1 _) (wpAny_pure (wpAny_bind (collect_list pl.isList ?_ (by rw [List.length_map, sizeLine_eq]; omega))))
  have fin := sort_newB (A := X.A.in1) (E := X.xe) (Q := fun v s' => EP X pins σ Q v s') (h1 := (s.heap.push (seqObj "list" #[] 0)).update s.heap.objs.size (Obj.mapSeq (· ++ (rs.map Value.ref).toArray))) (tk := s.toks) I (fun b o e =>
    ((Heap.SameBut.update _ _ _).2 b (Nat.ne_of_lt (Heap.lt_size e))).trans (Heap.get?_push_of_some _ e)) hp h64 fun rs' ts' s' p hS hf I' => ⟨.ref p, _, I', rfl, q rs' ts' p hS hf⟩
  refine wpAny_bind (wpAny_mono fin (fun l s' hl => wpAny_bind (wpAny_holding (wpAny_mono hl (fun _ s'' hq' => wpAny_pure ⟨_, rfl, hq'⟩) fun _ _ e => e))) fun _ _ e => e)
/-- sorted(d), the keys tuples of ints -/
theorem call_sortedDB (hc : X.calm = true) : CallR X (.builtin "sorted") (fun xs H Q => ∃ a kvs ts, xs = [.ref a] ∧ H a = some (.dT kvs) ∧ kvs.map (·.1) = ts.map (·.map Sum.inl) ∧ (∀ t ∈ ts, t ≠ []) ∧ kvs.length ≤ 1000000 ∧
    ∀ rs rs' ts' p, TupsH H rs ts → Sx.Sorted rs ts rs' ts' → H p = none → Q (.ref p) (upd H p (.lst (rs'.map V.ref)))) := by
  intro pins s σ H xs us Q I r h
  obtain ⟨a, kvs, ts, rfl, ha, hk, hne, h64, q⟩ := h
  obtain ⟨u, rfl, ru⟩ := vals1 r
  cases ru
  obtain ⟨z, lo, xs, rel, o, es, ep, e1, e2, e3, e4, _⟩ := (show ObjOk X.prog X.w H s.heap a (.dT kvs) from I.hok a _ ha)
  -- the addresses of the keys
  have hT : ∀ {l : List (List Key × V)} {m : List (List Key × Addr × Value)} {ts : List (List Int)}, KT H l m → l.map (·.1) = ts.map (·.map Sum.inl) → (∀ t ∈ ts, t ≠ []) → TupsH H (m.map (·.2.1)) ts := by
    intro l m ts q
    induction q generalizing ts with
    | nil =>
      intro e _
      cases ts with
      | nil => exact .nil
      | cons t ts => simp at e
    | @cons p q' ps qs hq t ih =>
      intro e hn
      cases ts with
      | nil => simp at e
      | cons t0 ts =>
        rw [List.map_cons, List.map_cons] at e
        injection e with ea eb
        refine .cons ⟨?_, hn t0 (.head _)⟩ (ih eb fun t ht => hn t (.tail _ ht))
        have := hq.2.1
        rw [ea, List.map_map] at this
        exact this
  have hp : TupsH H (xs.map (·.2.1)) ts := hT rel hk hne
  have hl1 : xs.length = kvs.length := (Paired.length rel).symm
  have hsz : es.size = xs.length := by rw [← Array.length_toList, e4, List.length_map]
  refine Calls.call_function_entry kind_sorted plain_sorted entry_sorted (args_sorted1 _) ?_
  unfold Builtin.«sorted»
  refine wpAny_bind (m := checkCount "sorted" 1 1 _) (wpAny_pure (wpAny_bind (PySem.W.kdu_collect (A := X.A.in1) (Sx.src_dictE lo) (I.ok.hd hc) ⟨o, e1, e2, e3⟩ (by rw [hsz, hl1]; exact z) fun h' tk acc hkp hacc => ?_)))
  have ea : acc.toList = (xs.map (·.2.1)).map Value.ref := by
    have ha' : acc.size = es.size := hacc.1
    apply List.ext_getElem?
    intro j
    rw [Array.getElem?_toList, List.map_map, List.getElem?_map]
    cases ej : acc[j]? with
    | none =>
      have : acc.size ≤ j := by simpa using ej
      rw [List.getElem?_eq_none (by omega)]; rfl
    | some v =>
      obtain ⟨en, h1, rfl⟩ := hacc.2 j v ej
      have h2 : es.toList[j]? = some en := by rw [Array.getElem?_toList]; exact h1
      rw [e4, List.getElem?_map] at h2
      cases ex : xs[j]? with
      | none => rw [ex] at h2; cases h2
      | some x => rw [ex] at h2; cases h2; rfl
  have fin := sort_newB (A := X.A.in1) (E := X.xe) (Q := fun v s' => EP X pins σ Q v s') (h1 := h') (tk := tk) I hkp hp (by rw [List.length_map]; omega) fun rs' ts' s' p hS hf I' => ⟨.ref p, _, I', rfl, q _ rs' ts' p hp hS hf⟩
  rw [ea]
  refine wpAny_bind (wpAny_mono fin (fun l s' hl => wpAny_bind (wpAny_holding (wpAny_mono hl (fun _ s'' hq' => wpAny_pure ⟨_, rfl, hq'⟩) fun _ _ e => e))) fun _ _ e => e)
end
end L2

/-! ### list(reversed(..)) of a list -/
namespace Rv
open PySem PySem.W PyProof.Rows
abbrev RIT : String := "list_reverseiterator"
/-- the iterator it of the list l, k items ahead -/
def IsRit (h : Heap) (it l : Addr) (k : Int) : Prop := ∃ (o : Obj) (t : Tok), h.get? it = some o ∧ o.cls = .type RIT ∧ o.data = .fields #[.ref l, .int (k - 1) t]
section
variable {prog : Program} {w : World} {A : Around} {E : Value → Shared → Prop} {s : Shared} {it l : Addr} {k : Int} {xs : Array Value}
end
end Rv

namespace Rv
open PySem PySem.W PyProof.Rows
section
variable {prog : Program} {w : World} {A : Around} {E : Value → Shared → Prop} {s : Shared}
end
end Rv

/-! ### k11: more rules: a loop over zip(..), list(range(..)), list(reversed(..)), != of tuples -/
namespace L2
open PySem PySem.Spec PyProof.Rows
/-- two lists side by side -/
def Itz (K : PySem.W.Frag) (a b : Addr) : It :=
  ⟨fun i H => ∃ xs ys x y, SqL K H a xs ∧ SqL K H b ys ∧ xs[i]? = some x ∧ ys[i]? = some y,
   fun i H x H' => ∃ t u v, x = .ref t ∧ H t = none ∧ H' = upd H t (.tup [u, v]) ∧ ∀ xs ys, SqL K H a xs → SqL K H b ys → xs[i]? = some u ∧ ys[i]? = some v,
   fun i H => ∃ xs ys, SqL K H a xs ∧ SqL K H b ys ∧ (xs.length ≤ i ∨ ys.length ≤ i)⟩
section
variable {X : Cx} {pins : List (Addr × Obj)} {σ : St} {H H' : Hp} {s : Shared} {h' : Heap}
end
section
variable {X : Cx} {elts : List Expr} {x1 : Nat} {p0 : Pos}
def iZip (K : PySem.W.Frag) (ta : TA) : TI := fun σ H R => ta σ H fun vs H1 => ∃ a b, vs = [.ref a, .ref b] ∧ (∃ xs, SqL K H1 a xs) ∧ (∃ ys, SqL K H1 b ys) ∧ R (Itz K a b) H1
end
end L2

namespace L2
open PySem PySem.Spec PyProof.Rows
/-- 0, 1, .. n - 1 -/
def upto (n : Nat) : List Int := (List.range n).map fun (i : Nat) => (i : Int)
def tLR (ta : TA) : TE := fun σ H Q => ta σ H fun vs H1 => ∃ j : Int, vs = [.int j] ∧ 0 ≤ j ∧ j ≤ 1000 ∧ ∀ l, H1 l = none → Q (.ref l) (upd H1 l (.lst ((upto j.toNat).map V.int)))
section
variable {X : Cx}
end
section
variable {X : Cx} {pins : List (Addr × Obj)} {σ : St} {H : Hp} {s : Shared}
end
end L2

namespace L2
open PySem PySem.Spec PyProof.Rows
def tLV (K : PySem.W.Frag) (ta : TA) : TE := fun σ H Q => ta σ H fun vs H1 => ∃ a xs, vs = [.ref a] ∧ SqL K H1 a xs ∧ ∀ l, H1 l = none → Q (.ref l) (upd H1 l (.lst xs.reverse))
end L2

/-! ### len(set(x)), x a list of ints -/
namespace L2
open PySem PySem.Spec PyProof.Rows
/-- how many unlike numbers -/
def unlike (t : List Int) : Nat := (firstMet (fun i => t.getD i 0) t.length).length
def tLenSet (K : PySem.W.Frag) (ta : TA) : TE := fun σ H Q => ta σ H fun vs H1 => ∃ (a : Addr) (t : List Int), vs = [.ref a] ∧ SqL K H1 a (t.map V.int) ∧ t.length ≤ 1000 ∧ Q (.int (unlike t)) H1
end L2

/-! ### what the laws over webs and pairs share -/
namespace Mt
theorem scan_ok {m : Int} : ∀ {T : List Tri} {seen : List (List Int)}, (seen ++ T.map key).Nodup → (∀ t ∈ T, ¬ bad m t.1 t.2.1) → scan m T seen = .good
  | [], _, _, _ => rfl
  | t :: r, seen, hn, hb => by
    rw [scan_cons, if_neg (hb t (.head _))]
    have e : seen ++ (t :: r).map key = (seen ++ [key t]) ++ r.map key := by simp
    rw [e] at hn
    have hk : ¬ (seen.any fun k => decide (k = key t)) = true := fun z => by
      obtain ⟨k, hk, ek⟩ := List.any_eq_true.mp z
      have ek := of_decide_eq_true ek
      have h1 := (List.nodup_append.mp hn).1
      exact (List.nodup_append.mp h1).2.2 k hk (key t) (.head _) ek
    rw [if_neg hk]
    exact scan_ok hn fun u hu => hb u (.tail _ hu)
end Mt
namespace L2
open PySem PySem.Spec PyProof.Rows
theorem PS.imp {X : Cx} {st : Stmt} {t t' : TS} (h : PS X st t) (i : ∀ D σ H, t' D σ H → t D σ H) : PS X st t' := fun pins s σ H D I q => h pins s σ H D I (i D σ H q)
theorem PSs.imp {X : Cx} {st : List Stmt} {t t' : TS} (h : PSs X st t) (i : ∀ D σ H, t' D σ H → t D σ H) : PSs X st t' := fun pins s σ H D I q => h pins s σ H D I (i D σ H q)
theorem pick2 {xs : List Int} {z : Int} (h0 : 0 ≤ z) (h1 : z < xs.length) : ∃ v : Int, v ∈ xs ∧ atI (xs.map V.int) z = some (.int v) := by
  have hz : z.toNat < xs.length := by omega
  refine ⟨xs[z.toNat], by simp, ?_⟩
  have := atI_nat (xs := xs.map V.int) (j := z.toNat) (v := .int xs[z.toNat]) (by simp [hz])
  rwa [Int.toNat_of_nonneg h0] at this
theorem TupsH.at' {H H' : Hp} {rs : List Addr} {ts : List (List Int)} (h : TupsH H rs ts) (k : ∀ b xs, H b = some (.tup xs) → H' b = some (.tup xs)) : TupsH H' rs ts :=
  zip_paired (Paired.length h) fun z hz => ⟨k _ _ (paired_zip h z hz).1, (paired_zip h z hz).2⟩
theorem set_self {α : Type} : ∀ {l : List α} {i : Nat} {x : α}, l[i]? = some x → l.set i x = l
  | [], _, _, e => by simp at e
  | a :: l, 0, x, e => by simp at e; subst e; rfl
  | a :: l, i + 1, x, e => by
    show a :: l.set i x = a :: l
    rw [set_self (l := l) (i := i) (by simpa using e)]
theorem tup_at {rs : List Addr} {ts : List (List Int)} {H : Hp} {i : Nat} {x : V} (h : TupsH H rs ts) (e : (rs.map V.ref)[i]? = some x) : ∃ r t, x = .ref r ∧ ts[i]? = some t ∧ H r = some (.tup (t.map V.int)) := by
  rw [List.getElem?_map] at e
  cases er : rs[i]? with
  | none => rw [er] at e; cases e
  | some r =>
    rw [er] at e
    obtain ⟨t, et, ht, _⟩ := Sx.pair_at (i := i) (a := r) h er
    exact ⟨r, t, (Option.some.inj e).symm, et, ht⟩
theorem map_int_at {xs : List Int} {i : Nat} {v : V} (h : (xs.map V.int)[i]? = some v) : ∃ z, v = .int z ∧ xs[i]? = some z := by
  rw [List.getElem?_map] at h
  cases e : xs[i]? with
  | none => rw [e] at h; cases h
  | some z => rw [e] at h; exact ⟨z, (Option.some.inj h).symm, rfl⟩
theorem cut_int (ns : List Int) (lo hi : Option Int) (i : Nat) (x : V) (h : (cutV (ns.map V.int) lo hi)[i]? = some x) : ∃ z : Int, x = .int z := by
  unfold cutV at h
  have m := List.mem_of_getElem? h
  have m2 := List.mem_of_mem_drop (List.mem_of_mem_take m)
  obtain ⟨z, _, e⟩ := List.mem_map.mp m2
  exact ⟨z, e.symm⟩
/-- a cut of any list -/
def cutA {α : Type} (xs : List α) (lo hi : Option Int) : List α := (xs.drop (HT.sIx xs.length 0 lo)).take (HT.sIx xs.length xs.length hi - HT.sIx xs.length 0 lo)
theorem cut_map {α : Type} (f : α → V) (xs : List α) (lo hi : Option Int) : cutV (xs.map f) lo hi = (cutA xs lo hi).map f := by
  unfold cutV cutA
  rw [List.length_map, List.map_take, List.map_drop]
theorem cutA_mem {α : Type} {xs : List α} {lo hi : Option Int} {x : α} (h : x ∈ cutA xs lo hi) : x ∈ xs := List.mem_of_mem_drop (List.mem_of_mem_take h)
theorem cutA_len {α : Type} (xs : List α) (lo hi : Option Int) : (cutA xs lo hi).length ≤ xs.length := by
  unfold cutA
  rw [List.length_take, List.length_drop]
  omega
theorem max1 (m : Int) : (if m > 1 then m else (1 : Int)) > 0 := by split <;> omega
/-- all of them pairs of ints -/
def Prs (H : Hp) (rs : List Addr) : Prop := ∀ r ∈ rs, ∃ x y : Int, H r = some (.tup [.int x, .int y])
def Two (ts : List (List Int)) : Prop := ∀ t ∈ ts, ∃ x y : Int, t = [x, y]
theorem bt_bool : bootBuiltins "bool" = some (.type "bool") := by decide +kernel
theorem bt_int : bootBuiltins "int" = some (.type "int") := by decide +kernel
theorem bt_list : bootBuiltins "list" = some (.type "list") := by decide +kernel
theorem bt_all : bootBuiltins "all" = some (.builtin "all") := by decide +kernel
theorem passNo {P : Program} {w : World} {X : Cx} : Passes (CXx P w) X E0 := fun _ _ _ _ _ _ _ h => by
  obtain ⟨ea, cls, a0, B, H', _, _, _, _, _, _, _, _, he⟩ := h
  exact False.elim he
end L2

/-! ### sum(x), x.index(y): lists of ints -/
namespace L2
open PySem PySem.Spec PyProof.Rows
section
variable {X : Cx}
theorem size_push_lt {h : Heap} {o : Obj} {b : Addr} (e : b < h.objs.size) : b < (h.push o).objs.size := by
  rw [size_push']
  exact Nat.lt_succ_of_lt e
theorem call_sumI (hc : X.calm = true) : CallR X (.builtin "sum") (fun vs H Q => ∃ (a : Addr) (t : List Int), vs = [.ref a] ∧ SqL X.K H a (t.map V.int) ∧ Q (.int t.sum) H) := by
  intro pins s σ H vs us Q I r h
  obtain ⟨a, t, rfl, hq, q⟩ := h
  obtain ⟨u, rfl, ru⟩ := vals1 r
  cases ru
  obtain ⟨its, rv, pl, hz⟩ := I.list hq
  have hi := intsAre_of rv
  have hlen : its.length = t.length := hi.length
  have hl := pl.isList
  have hlt : a < s.heap.objs.size := by obtain ⟨_, e, _⟩ := hl; exact Heap.lt_size e
  refine PySem.call_sum_walkAnyS (wpAny_pyIter_list hl ?_)
  refine ⟨s.heap.objs.size, [s.heap.objs.size, a], [s.heap.objs.size], _, its.toArray.size, _, _, fun i => t.getD i 0, rfl, (Walks.list (A := X.A.in1) (I.ok.hd hc) _ a (Nat.ne_of_lt hlt) its.toArray).toS,
    ⟨⟨_, Heap.get?_push_size _ rfl, rfl, rfl⟩, hl.push _⟩, fun b hb => ?_, fun i v hP => ?_, fun s' t' mv => ?_⟩
  · rcases List.mem_cons.mp hb with rfl | hb
    · rw [size_push']; exact Nat.lt_succ_self _
    · rw [List.mem_singleton] at hb
      subst hb
      exact size_push_lt hlt
  · exact Sx.ints_at (i := i) (v := v) hi (by simpa using hP)
  · have e := mv.eq_with
    rw [e]
    have e2 : preSum (fun i => t.getD i 0) its.toArray.size = t.sum := by
      rw [PyProof.Rows.preSum_getD, List.size_toArray, hlen, List.take_length]
    rw [e2]
    exact ⟨.int t.sum, H, I.kept fun b x z => mv.heap b x (fun hm => by rw [List.mem_singleton.mp hm] at z; exact Nat.lt_irrefl _ (Heap.lt_size z)) (Heap.get?_push_of_some _ z), ⟨_, rfl⟩, q⟩
end
end L2

/-! ### k15: the text, the promises of the program's defs -/
namespace L2
open PySem PySem.Spec PyProof.Rows
theorem Fun.okX {P : Program} {w : World} {K : PySem.W.Frag} {mg : Str → Option Value} {base : Heap} {x qual : Str} {st : Stmt} {f : Addr} {fd : FuncData} {N ps : List Str} {k : Nat} {sp : Sp} (F : Fun K x qual st f fd) (S : FnScope N ps (defScope st)) (len : ∀ vs H Q E, sp vs H Q E → vs.length = ps.length)
    (hb : ∀ (cdv : Value) (A : Around) (outer : List Env) (s : Shared) (H : Hp) (vs : List V) (Q : VK) (E : XK), Room k (A.deeper (envOfC qual (defScope st) s.heap.objs.size f cdv)) → sp vs H Q E →
      ∃ t, PSs (cxOf (CXx P w) P w K mg base N qual (defScope st) f cdv A outer s H E) (defBody st) t ∧ t { nx := fun _ H' => Q .non H', rt := Q } (start N vs) H) : FnOk P w K mg base (CXx P w) (k + 1) f fd ps sp := by
  obtain ⟨oc, od, kV, doc, pm, an, cdv, ct, osl, rfl, lk, hcd⟩ := F.ex
  exact fn_of lk hcd S len fun A outer s H vs Q E hr hsp => hb cdv A outer s H vs Q E hr hsp
end L2
namespace K15
open PySem L2 PyProof.Rows
def top (i : Nat) : Stmt := PySem.Challenge.pw_pairsheath_k15_worth_left_partner.main.body.getD i (.Pass ⟨0, 0, 0, 0⟩)
abbrev sSize : Stmt := top 12
abbrev sEnds : Stmt := top 13
abbrev sOrd : Stmt := top 14
abbrev sWts : Stmt := top 15
abbrev sNb : Stmt := top 16
abbrev sInit : Stmt := inClass (top 17) 0
abbrev sMSize : Stmt := inClass (top 17) 1
abbrev sTies : Stmt := inClass (top 17) 2
abbrev sWeight : Stmt := inClass (top 17) 3
abbrev sTied : Stmt := inClass (top 17) 4
abbrev sPart : Stmt := top 1
abbrev sWorth : Stmt := top 2
abbrev sLeft : Stmt := top 3
abbrev sPner : Stmt := top 4
abbrev sCell : Stmt := top 19
abbrev sWhole : Stmt := top 20
abbrev sMix : Stmt := top 21
abbrev sRows : Stmt := top 22
abbrev sSome : Stmt := top 23
abbrev sTold : Stmt := top 24
abbrev sLaw : Stmt := top 25

abbrev mroV : List Value := [.type "ValueError", .type "Exception", .type "BaseException", .type "object"]
abbrev newV : String := "ValueError.__new__"
section
variable {P : Program} {w : World} {K : PySem.W.Frag} {mg : Str → Option Value} {base : Heap}
theorem Same.new {H : Hp} {p : Addr} {o : HO} (h : H p = none) : Same H (upd H p o) := fun b u e => by
  rw [upd_ne (ne_of_none e h)]
  exact e
/-! check_size -/
def spSize (CT : Addr) : Sp := fun vs H Q E => ∃ m : Int, vs = [.int m] ∧ ((m < 0 ∨ 24 < m) → E (.ref CT) none H) ∧ (¬ (m < 0 ∨ 24 < m) → Q .non H)
theorem scSize : FnScope ["many"] ["many"] (defScope sSize) := ⟨rfl, rfl, rfl, by decide +kernel, rfl, by decide +kernel, by decide +kernel⟩
theorem ok_size {f CT : Addr} {fd : FuncData} {u24 : Value} (F : Fun K "check_size" "check_size" sSize f fd) (T : ExcC K mg "TooMany" CT mroV newV) (g24 : mg "MOST_POINTS" = some u24) (r24 : RelV (.int 24) u24) : FnOk P w K mg base (CXx P w) 1 f fd ["many"] (spSize CT) := by
  refine F.okX scSize (fun vs H Q E h => ?_) (fun cdv A outer s H vs Q E hr h => ?_)
  · obtain ⟨m, rfl, _⟩ := h
    rfl
  · obtain ⟨m, rfl, h1, h2⟩ := h
    refine ⟨_, pss_one (ps_if (pw_or (pt_cmpR op_lt (pv 0) pe_int (nomark _)) (pw_or1 (pt_cmpR op_gt (pv 0) (pe_glob (by rfl) g24 r24) (nomark _)))).pt
      (pss_one (ps_raise T PySem.F.excBase_ValueError hr.hd rfl)) pss_nil), ?_⟩
    refine ⟨_, rfl, _, _, rfl, rfl, _, rfl, ?_⟩
    refine ite2 (fun c => iteT (h1 (.inl (of_decide_eq_true c)))) (fun c => ?_)
    refine ⟨_, rfl, _, _, rfl, rfl, _, rfl, ?_⟩
    refine ite2 (fun d => h1 (.inr (of_decide_eq_true d))) (fun d => h2 ?_)
    simp only [decide_eq_true_eq] at c d
    omega
/-! ordered -/
def spOrd : Sp := fun vs H Q _ => ∃ a b : Int, vs = [.int a, .int b] ∧ ∀ p, H p = none → Q (.ref p) (upd H p (.tup [.int (Mt.lo a b), .int (Mt.hi a b)]))
theorem scOrd : FnScope ["a", "b"] ["a", "b"] (defScope sOrd) := ⟨rfl, rfl, rfl, by decide +kernel, rfl, by decide +kernel, by decide +kernel⟩
theorem ok_ord {f : Addr} {fd : FuncData} (F : Fun K "ordered" "ordered" sOrd f fd) (gmin : mg "min" = none) (gmax : mg "max" = none) : FnOk P w K mg base CX0 1 f fd ["a", "b"] spOrd := by
  refine F.ok scOrd (fun vs H Q E h => ?_) (fun cdv A outer s H vs Q E hr h => ?_)
  · obtain ⟨a, b, rfl, _⟩ := h
    rfl
  · obtain ⟨a, b, rfl, h⟩ := h
    refine ⟨_, pss_one (ps_ret (pe_tup (pa_cons (pe_callB (call_min2 rfl) (by rfl) gmin boot_min (pa_cons (pv 0) (pa_cons (pv 1) pa_nil)))
      (pa_cons (pe_callB (call_max2 rfl) (by rfl) gmax boot_max (pa_cons (pv 0) (pa_cons (pv 1) pa_nil))) pa_nil)))), ?_⟩
    exact ⟨_, rfl, _, rfl, a, b, rfl, _, rfl, _, rfl, a, b, rfl, (by show 2 ≤ sizeLine; decide), fun p hp => h p hp⟩
/-! check_ends -/
def spEnds (CB : Addr) : Sp := fun vs H Q E => ∃ m a b : Int, vs = [.int m, .int a, .int b] ∧ (Mt.bad m a b → ∀ H', Same H H' → E (.ref CB) none H') ∧ (¬ Mt.bad m a b → ∀ H', Same H H' → Q .non H')
theorem scEnds : FnScope ["many", "a", "b", "end"] ["many", "a", "b"] (defScope sEnds) := ⟨rfl, rfl, rfl, by decide +kernel, rfl, by decide +kernel, by decide +kernel⟩
theorem ok_ends {f CB : Addr} {fd : FuncData} (F : Fun K "check_ends" "check_ends" sEnds f fd) (T : ExcC K mg "BadTie" CB mroV newV) : FnOk P w K mg base (CXx P w) 1 f fd ["many", "a", "b"] (spEnds CB) := by
  refine F.okX scEnds (fun vs H Q E h => ?_) (fun cdv A outer s H vs Q E hr h => ?_)
  · obtain ⟨m, a, b, rfl, _⟩ := h
    rfl
  · obtain ⟨m, a, b, rfl, h1, h2⟩ := h
    refine ⟨_, pss_cons (ps_for PassesOwn.leaving rfl (pi_tup (pe_tup (pa_cons (pv 1) (pa_cons (pv 2) pa_nil)))) (pg_name (i := 3) scEnds.nd rfl (Or.inl rfl))
        (pss_one (ps_if (pw_or (pt_cmpR op_lt (pv 3) pe_int (nomark _)) (pw_or1 (pt_cmpR op_ge (pv 3) (pv 0) (nomark _)))).pt (pss_one (ps_raise T PySem.F.excBase_ValueError hr.hd rfl)) pss_nil)))
      (pss_one (ps_if (pt_cmpR op_eq (pv 1) (pv 2) (nomark _)) (pss_one (ps_raise T PySem.F.excBase_ValueError hr.hd rfl)) pss_nil)), ?_⟩
    refine ⟨_, rfl, _, rfl, (by show 2 ≤ sizeLine; decide), fun t ht => ⟨t, rfl, ⟨_, SqT.of upd_same⟩, for_tup (xs := [V.int a, V.int b])
      (fun i σ H2 => ∃ e, σ = [some (.int m), some (.int a), some (.int b), e] ∧ Same H H2 ∧ H2 t = some (.tup [.int a, .int b]) ∧ (0 < i → ¬ (a < 0 ∨ m ≤ a)) ∧ (1 < i → ¬ (b < 0 ∨ m ≤ b)))
      ⟨none, rfl, Same.new ht, upd_same, fun z => absurd z (by decide), fun z => absurd z (by decide)⟩ (fun i σ H2 _ ⟨e, _, _, hh, _⟩ => SqT.of hh) ?_ ?_⟩⟩
    · rintro i x σ H2 hi ⟨e, rfl, sm, hh, q1, q2⟩
      obtain ⟨v, rfl, hv⟩ : ∃ v : Int, x = .int v ∧ ((i = 0 ∧ v = a) ∨ (i = 1 ∧ v = b)) := by
        match i, hi with
        | 0, hi => exact ⟨a, (Option.some.inj hi).symm, .inl ⟨rfl, rfl⟩⟩
        | 1, hi => exact ⟨b, (Option.some.inj hi).symm, .inr ⟨rfl, rfl⟩⟩
        | n + 2, hi => cases hi
      have bd : v < 0 ∨ m ≤ v → Mt.bad m a b := by
        unfold Mt.bad
        rcases hv with ⟨_, rfl⟩ | ⟨_, rfl⟩ <;> omega
      refine ⟨_, rfl, _, _, rfl, rfl, _, rfl, ?_⟩
      refine ite2 (fun c => iteT (h1 (bd (.inl (of_decide_eq_true c))) H2 sm)) (fun c => ?_)
      refine ⟨_, rfl, _, rfl, _, _, rfl, rfl, _, rfl, ?_⟩
      refine ite2 (fun d => h1 (bd (.inr (of_decide_eq_true d))) H2 sm) (fun d => ?_)
      simp only [decide_eq_true_eq] at c d
      refine ⟨_, rfl, sm, hh, fun z => ?_, fun z => ?_⟩
      · rcases hv with ⟨rfl, rfl⟩ | ⟨rfl, rfl⟩
        · omega
        · exact q1 (by decide)
      · rcases hv with ⟨rfl, rfl⟩ | ⟨rfl, rfl⟩
        · exact absurd z (by decide)
        · omega
    · rintro σ H2 ⟨e, rfl, sm, hh, q1, q2⟩
      have r1 := q1 (by show 0 < 2; decide)
      have r2 := q2 (by show 1 < 2; decide)
      refine ⟨_, rfl, _, rfl, rfl, _, rfl, ?_⟩
      refine ite2 (fun c => h1 ?_ H2 sm) (fun c => h2 ?_ H2 sm)
      · have e : V.int a = V.int b := of_decide_eq_true c
        injection e with e
        unfold Mt.bad; omega
      · have e : a ≠ b := fun z => c (by rw [z]; simp)
        unfold Mt.bad; omega
end
end K15

/-! ### k15: weights_of -/
namespace K15
open PySem L2 PyProof.Rows
section
variable {P : Program} {w : World} {K : PySem.W.Frag} {mg : Str → Option Value} {base : Heap}
/-- a list of triples stands at p -/
structure RowsAt (K : PySem.W.Frag) (H : Hp) (p : Addr) (rs : List Addr) (T : List Mt.Tri) : Prop where
  ls : SqL K H p (rs.map V.ref)
  tp : TupsH H rs (T.map Mt.tri)
theorem TupsH.same {H H' : Hp} (s : Same H H') : ∀ {rs : List Addr} {ts : List (List Int)}, TupsH H rs ts → TupsH H' rs ts
  | _, _, .nil => .nil
  | _, _, .cons h t => .cons ⟨s _ _ h.1, h.2⟩ (TupsH.same s t)
theorem RowsAt.same {H H' : Hp} {p : Addr} {rs : List Addr} {T : List Mt.Tri} (s : Same H H') (h : RowsAt K H p rs T) : RowsAt K H' p rs T := ⟨s.seq h.ls, TupsH.same s h.tp⟩
theorem RowsAt.len {H : Hp} {p : Addr} {rs : List Addr} {T : List Mt.Tri} (h : RowsAt K H p rs T) : rs.length = T.length := by
  have := Paired.length h.tp
  rw [List.length_map] at this
  exact this
theorem RowsAt.at_ {H : Hp} {p : Addr} {rs : List Addr} {T : List Mt.Tri} (h : RowsAt K H p rs T) {i : Nat} {x : V} (e : (rs.map V.ref)[i]? = some x) :
    ∃ r t, x = .ref r ∧ T[i]? = some t ∧ H r = some (.tup [.int t.1, .int t.2.1, .int t.2.2]) := by
  rw [List.getElem?_map] at e
  cases er : rs[i]? with
  | none => rw [er] at e; cases e
  | some r =>
    rw [er] at e
    obtain ⟨u, eu, hu, _⟩ := Sx.pair_at (i := i) (a := r) h.tp er
    rw [List.getElem?_map] at eu
    cases et : T[i]? with
    | none => rw [et] at eu; cases eu
    | some t =>
      rw [et] at eu
      cases eu
      exact ⟨r, t, (Option.some.inj e).symm, rfl, hu⟩
/-- the dict of the weights -/
def kk (t : Mt.Tri) : List Key := (Mt.key t).map Sum.inl
def wd (T : List Mt.Tri) : List (List Key × V) := T.map fun t => (kk t, V.int t.2.2)
theorem inl_inj : ∀ {a b : List Int}, a.map (Sum.inl : Int → Key) = b.map Sum.inl → a = b
  | [], [], _ => rfl
  | [], _ :: _, e => by simp at e
  | _ :: _, [], e => by simp at e
  | x :: xs, y :: ys, e => by
    rw [List.map_cons, List.map_cons] at e
    injection e with e1 e2
    injection e1 with e1
    rw [e1, inl_inj e2]
theorem wd_some (T : List Mt.Tri) (t : Mt.Tri) : (valV (wd T) (kk t)).isSome = (T.map Mt.key).any fun k => decide (k = Mt.key t) := by
  rw [← valV_any]
  induction T with
  | nil => rfl
  | cons u T ih =>
    show (decide (kk u = kk t) || (wd T).any _) = (decide (Mt.key u = Mt.key t) || (T.map Mt.key).any _)
    rw [ih]
    congr 1
    rw [Bool.eq_iff_iff, decide_eq_true_iff, decide_eq_true_iff]
    exact ⟨fun e => inl_inj e, fun e => by unfold kk; rw [e]⟩
theorem wd_snoc (T : List Mt.Tri) (t : Mt.Tri) (h : (valV (wd T) (kk t)) = none) : putK (wd T) (kk t) (.int t.2.2) = wd (T ++ [t]) := by
  rw [putK_new _ h]
  unfold wd
  rw [List.map_append]
  rfl
def spWts (CB C2 : Addr) (K : PySem.W.Frag) : Sp := fun vs H Q E => ∃ (m : Int) (p : Addr) (rs : List Addr) (T : List Mt.Tri), vs = [.int m, .ref p] ∧ RowsAt K H p rs T ∧ T.length < 1000 ∧
  (Mt.scan m T [] = .bad → ∀ H', Same H H' → E (.ref CB) none H') ∧ (Mt.scan m T [] = .twice → ∀ H', Same H H' → E (.ref C2) none H') ∧
  (Mt.scan m T [] = .good → ∀ d H', H d = none → Same H H' → H' d = some (.dT (wd T)) → Q (.ref d) H')
theorem scWts : FnScope ["many", "ties", "weights", "a", "b", "weight", "ends"] ["many", "ties"] (defScope sWts) := ⟨rfl, rfl, rfl, by decide +kernel, rfl, by decide +kernel, by decide +kernel⟩
theorem ok_wts {f fE fO CB C2 : Addr} {fd fdE fdO : FuncData} (F : Fun K "weights_of" "weights_of" sWts f fd) (T2 : ExcC K mg "Twice" C2 mroV newV)
    (GE : FnOk P w K mg base (CXx P w) 1 fE fdE ["many", "a", "b"] (spEnds CB)) (mE : mg "check_ends" = some (.ref fE)) (kE : PySem.W.keepIn K (.ref fE) = true) (bE : Binds K fdE ["many", "a", "b"] [])
    (GO : FnOk P w K mg base CX0 1 fO fdO ["a", "b"] spOrd) (mO : mg "ordered" = some (.ref fO)) (kO : PySem.W.keepIn K (.ref fO) = true) (bO : Binds K fdO ["a", "b"] []) :
    FnOk P w K mg base (CXx P w) 2 f fd ["many", "ties"] (spWts CB C2 K) := by
  refine F.okX scWts (fun vs H Q E h => ?_) (fun cdv A outer s H vs Q E hr h => ?_)
  · obtain ⟨m, p, rs, T, rfl, _⟩ := h
    rfl
  · obtain ⟨m, p, rs, T, rfl, R, hl, hb, h2, hg⟩ := h
    have hu := hu_of hr
    refine ⟨_, pss_cons (ps_set (i := 2) scWts.nd rfl (Or.inl rfl) pe_dnewT)
      (pss_cons (ps_for PassesOwn.leaving rfl (pi_list (pv 1)) (pg_tup rfl (pgs_cons (pg_name (i := 3) scWts.nd rfl (Or.inl rfl)) (pgs_cons (pg_name (i := 4) scWts.nd rfl (Or.inl rfl)) (pgs_cons (pg_name (i := 5) scWts.nd rfl (Or.inl rfl)) pgs_nil))))
        (pss_cons (ps_expr (pe_call GE hr rfl mE kE bE .nil passX (pa_cons (pv 0) (pa_cons (pv 3) (pa_cons (pv 4) pa_nil)))))
        (pss_cons (ps_set (i := 6) scWts.nd rfl (Or.inl rfl) (pe_call GO hr rfl mO kO bO .nil pass0 (pa_cons (pv 3) (pa_cons (pv 4) pa_nil))))
        (pss_cons (ps_if (pt_cmp (pc_din hu (pv 6) (pv 2))) (pss_one (ps_raise T2 PySem.F.excBase_ValueError hr.hd rfl)) pss_nil)
        (pss_one (ps_dput hu (pv 2) (pv 6) (pv 5) rfl))))))
      (pss_one (ps_ret (pv 2)))), ?_⟩
    intro d hd
    have s0 : Same H (upd H d (.dT [])) := Same.new hd
    refine ⟨_, rfl, p, rfl, ⟨_, (R.same s0).ls⟩, for_list (K := K) (a := p) (xs := rs.map V.ref)
      (fun i σ H2 => ∃ e3 e4 e5 e6, σ = [some (.int m), some (.ref p), some (.ref d), e3, e4, e5, e6] ∧ Same H H2 ∧ H2 d = some (.dT (wd (T.take i))) ∧ Mt.scan m T [] = Mt.scan m (T.drop i) ((T.take i).map Mt.key))
      ⟨none, none, none, none, rfl, s0, upd_same, rfl⟩ (fun i σ H2 _ ⟨_, _, _, _, _, s2, _⟩ => (R.same s2).ls) ?_ ?_⟩
    · rintro i x σ H2 hi ⟨e3, e4, e5, e6, rfl, s2, hdi, hsc⟩
      obtain ⟨r, t, rfl, et, ht⟩ := (R.same s2).at_ hi
      have hil : i < T.length := (List.getElem?_eq_some_iff.mp et).1
      have hdr : T.drop i = t :: T.drop (i + 1) := by
        rw [List.drop_eq_getElem_cons hil]
        congr 1
        exact (List.getElem?_eq_some_iff.mp et).2
      have htk : T.take (i + 1) = T.take i ++ [t] := by
        rw [List.take_succ, et]
        rfl
      rw [hdr, Mt.scan_cons] at hsc
      -- a, b, weight = the row
      refine ⟨r, _, rfl, SqT.of ht, rfl, _, _, rfl, _, _, rfl, _, _, rfl, rfl, ?_⟩
      -- check_ends(many, a, b)
      refine ⟨_, rfl, _, rfl, _, rfl, m, t.1, t.2.1, rfl, fun bd H3 s3 => ?_, fun nb H3 s3 => ?_⟩
      · rw [if_pos bd] at hsc
        exact hb hsc H3 (s2.trans s3)
      · rw [if_neg nb] at hsc
        -- ends = ordered(a, b)
        refine ⟨_, rfl, _, rfl, t.1, t.2.1, rfl, fun q hq => ?_⟩
        have s4 : Same H3 (upd H3 q (.tup [.int (Mt.lo t.1 t.2.1), .int (Mt.hi t.1 t.2.1)])) := Same.new hq
        have hd4 := s4 d _ (s3 d _ hdi)
        have hq4 : upd H3 q (.tup [.int (Mt.lo t.1 t.2.1), .int (Mt.hi t.1 t.2.1)]) q = some (.tup ((kk t).map kV)) := upd_same
        refine ⟨_, rfl, _, rfl, d, _, rfl, DGet.t (k := kk t) hd4 hq4, _, rfl, ?_⟩
        refine ite2 (fun c => ?_) (fun c => ?_)
        · rw [wd_some] at c
          rw [if_pos c] at hsc
          exact h2 hsc _ (s2.trans (s3.trans s4))
        · have cn : valV (wd (T.take i)) (kk t) = none := by
            cases q : valV (wd (T.take i)) (kk t) with
            | none => rfl
            | some v => rw [q] at c; exact absurd rfl c
          rw [wd_some] at c
          rw [if_neg c] at hsc
          refine ⟨_, rfl, _, rfl, _, rfl, d, _, rfl, DPut.t (k := kk t) hd4 hq4 (small1000 ?_), ?_⟩
          · unfold wd; rw [List.length_map, List.length_take]; omega
          · refine ⟨_, _, _, _, rfl, fun b o e => ?_, ?_, ?_⟩
            · rw [upd_ne (ne_of_none e hd)]
              exact s4 b o (s3 b o (s2 b o e))
            · rw [upd_same, wd_snoc _ _ cn, htk]
            · rw [hsc, htk, List.map_append]; rfl
    · rintro σ H2 ⟨e3, e4, e5, e6, rfl, s2, hdi, hsc⟩
      rw [List.length_map, R.len] at hdi hsc
      rw [List.take_length] at hdi hsc
      rw [List.drop_length] at hsc
      exact ⟨_, rfl, hg hsc d H2 hd s2 hdi⟩
end
end K15

/-! ### k15: neighbours_of -/
namespace K15
open PySem L2 PyProof.Rows
section
variable {P : Program} {w : World} {K : PySem.W.Frag} {mg : Str → Option Value} {base : Heap}
theorem relabel_no {scope : Scope} {env : Env} (h : ∀ y ∈ scope.names, y.2 ≠ .cell ∧ y.2 ≠ .free) (x : Str) : ¬ ((relabel scope env).names.lookup x = some .cell ∨ (relabel scope env).names.lookup x = some .free) := by
  have key : ∀ y ∈ (relabel scope env).names, y.2 ≠ .cell ∧ y.2 ≠ .free := fun y hy => by
    obtain ⟨z, hz, e⟩ := List.mem_map.mp hy
    have h' := h z hz
    obtain ⟨n, k⟩ := z
    have hk : (k == NameKind.free) = false := beq_eq_false_iff_ne.mpr h'.2
    simp only [hk, Bool.false_and, Bool.false_eq_true, if_false] at e
    subst e
    exact h'
  rintro (e | e)
  · exact (key _ (PySem.mem_of_lookup e)).1 rfl
  · exact (key _ (PySem.mem_of_lookup e)).2 rfl
theorem caps0 {X : Cx} {scope : Scope} {own : List Str} (h1 : closureFor scope X.env = pure []) (h2 : scope.kind = .function) (h3 : ∀ y ∈ scope.names, y.2 ≠ .cell ∧ y.2 ≠ .free) (h4 : ∀ y ∈ scope.names, y.2 = .local → scope.names.lookup y.1 = some .local) : Caps X scope [] own [] [] :=
  ⟨h1, fun x c e => (by cases e), h2, fun y hy => (h3 y hy).1, h4, fun x hx => absurd hx (relabel_no h3 x), rfl, fun i x e => (by cases e)⟩
theorem ix_inj {α : Type} {l : List α} {i j : Nat} {x : α} (h : l.Nodup) (hi : l[i]? = some x) (hj : l[j]? = some x) : i = j := by
  have h : l.Pairwise (· ≠ ·) := h
  rw [List.pairwise_iff_getElem] at h
  obtain ⟨a, ea⟩ := List.getElem?_eq_some_iff.mp hi
  obtain ⟨b, eb⟩ := List.getElem?_eq_some_iff.mp hj
  rcases Nat.lt_trichotomy i j with q | q | q
  · exact absurd (ea.trans eb.symm) (h i j a b q)
  · exact q
  · exact absurd (eb.trans ea.symm) (h j i b a q)
/-- the points beside i, by the keys in their order -/
def nbM (ts : List (List Int)) (i : Int) : List Int := ts.flatMap fun t => match t with | [a, b] => (if a = i then [b] else []) ++ (if b = i then [a] else []) | _ => []
theorem nbM_snoc (l : List (List Int)) (a b k : Int) : nbM (l ++ [[a, b]]) k = nbM l k ++ ((if a = k then [b] else []) ++ (if b = k then [a] else [])) := by
  unfold nbM
  rw [List.flatMap_append]
  simp
theorem nbM_len (k : Int) : ∀ l : List (List Int), (nbM l k).length ≤ 2 * l.length
  | [] => Nat.le_refl _
  | t :: l => by
    have ih := nbM_len k l
    unfold nbM at ih ⊢
    rw [List.flatMap_cons, List.length_append, List.length_cons]
    have : (match t with | [a, b] => (if a = k then [b] else []) ++ (if b = k then [a] else []) | _ => []).length ≤ 2 := by
      split
      · rw [List.length_append]
        split <;> split <;> simp
      · exact Nat.zero_le _
    omega
/-- the neighbours of all points lie at n -/
def NbAt (H : Hp) (n : Addr) (m : Int) (ts : List (List Int)) : Prop := ∃ ps : List Addr, H n = some (.lst (ps.map V.ref)) ∧ ps.length = m.toNat ∧ ∀ (j : Nat) q, ps[j]? = some q → H q = some (.lst ((nbM ts j).map V.int))
theorem NbAt.at' {H H' : Hp} {n : Addr} {m : Int} {ts : List (List Int)} (h : NbAt H n m ts) (k : ∀ b xs, H b = some (.lst xs) → H' b = some (.lst xs)) : NbAt H' n m ts := by
  obtain ⟨ps, h1, h2, h3⟩ := h
  exact ⟨ps, k _ _ h1, h2, fun j q e => k _ _ (h3 j q e)⟩
/-- as NbAt, the lists all such as N says -/
def NbN (H : Hp) (n : Addr) (m : Int) (ts : List (List Int)) (N : Addr → Prop) : Prop := ∃ ps : List Addr, H n = some (.lst (ps.map V.ref)) ∧ ps.length = m.toNat ∧ (∀ (j : Nat) q, ps[j]? = some q → H q = some (.lst ((nbM ts j).map V.int))) ∧ N n ∧ ∀ q ∈ ps, N q
theorem NbN.nb {H : Hp} {n : Addr} {m : Int} {ts : List (List Int)} {N : Addr → Prop} (h : NbN H n m ts N) : NbAt H n m ts := let ⟨ps, h1, h2, h3, _⟩ := h; ⟨ps, h1, h2, h3⟩
theorem NbN.at' {H H' : Hp} {n : Addr} {m : Int} {ts : List (List Int)} {N N' : Addr → Prop} (h : NbN H n m ts N) (k : ∀ b xs, N b → H b = some (.lst xs) → H' b = some (.lst xs)) (i : ∀ b xs, N b → H b = some (.lst xs) → N' b) : NbN H' n m ts N' := by
  obtain ⟨ps, h1, h2, h3, h4, h5⟩ := h
  have at_ : ∀ q ∈ ps, ∃ xs, H q = some (.lst xs) := fun q hq => by
    obtain ⟨j, hj, e⟩ := List.getElem_of_mem hq
    exact ⟨_, h3 j q (by rw [← e]; simp [hj])⟩
  exact ⟨ps, k _ _ h4 h1, h2, fun j q e => k _ _ (h5 q (List.mem_of_getElem? e)) (h3 j q e), i _ _ h4 h1, fun q hq => let ⟨_, e⟩ := at_ q hq; i _ _ (h5 q hq) e⟩
def spNb (K : PySem.W.Frag) : Sp := fun vs H Q _ => ∃ (m : Int) (e : Addr) (rs : List Addr) (ts : List (List Int)), vs = [.int m, .ref e] ∧ 0 ≤ m ∧ m ≤ 24 ∧ SqL K H e (rs.map V.ref) ∧ TupsH H rs ts ∧ rs.length ≤ 300 ∧
  (∀ t ∈ ts, ∃ a b : Int, t = [a, b] ∧ 0 ≤ a ∧ a < b ∧ b < m) ∧ ∀ n H', Same H H' → NbN H' n m ts (fun b => H b = none) → Q (.ref n) H'
theorem scNb : FnScope ["many", "ends_sorted", "neighbours", "a", "b"] ["many", "ends_sorted"] (defScope sNb) := ⟨rfl, rfl, rfl, by decide +kernel, rfl, by decide +kernel, by decide +kernel⟩
theorem nd_own1 : ([".0", "point"] : List Str).Nodup := by decide +kernel
theorem ok_nb {f : Addr} {fd : FuncData} (F : Fun K "neighbours_of" "neighbours_of" sNb f fd) (grange : mg "range" = none) : FnOk P w K mg base CX0 1 f fd ["many", "ends_sorted"] (spNb K) := by
  refine F.ok scNb (fun vs H Q E h => ?_) (fun cdv A outer s H vs Q E hr h => ?_)
  · obtain ⟨m, e, rs, ts, rfl, _⟩ := h
    rfl
  · obtain ⟨m, e, rs, ts, rfl, hm0, hm, hS, hT, h64, hts, hQ⟩ := h
    refine ⟨_, pss_cons (ps_comp (i := 2) (own := [".0", "point"]) (cl := []) (caps := []) (js := []) rfl (caps0 rfl rfl (by decide +kernel) (by decide +kernel)) (pi_range1 rfl grange (pa_cons (pv 0) pa_nil))
        (fun pins C s H1 fp => pg_name (i := 1) nd_own1 rfl (Or.inl rfl)) (fun pins C s H1 fp => pts_nil) (fun pins C s H1 fp => pe_lst pa_nil) scNb.nd rfl rfl rfl)
      (pss_cons (ps_for PassesOwn.never rfl (pi_list (pv 1)) (pg_tup rfl (pgs_cons (pg_name (i := 3) scNb.nd rfl (Or.inl rfl)) (pgs_cons (pg_name (i := 4) scNb.nd rfl (Or.inl rfl)) pgs_nil)))
        (pss_cons (ps_expr (pe_bm PySem.F.plainAttrs_list PySem.F.slot_list_append PySem.F.type_list_append mt_append (pe_ix ix_list (pv 2) (pv 3) (fun _ _ => rfl)) (pa_cons (pv 4) pa_nil)))
        (pss_one (ps_expr (pe_bm PySem.F.plainAttrs_list PySem.F.slot_list_append PySem.F.type_list_append mt_append (pe_ix ix_list (pv 2) (pv 4) (fun _ _ => rfl)) (pa_cons (pv 3) pa_nil))))))
      (pss_one (ps_ret (pv 2)))), ?_⟩
    refine ⟨_, rfl, m, rfl, by omega, by omega, fun d hd => ?_⟩
    refine turns_range (n := m.toNat) (fun i ys σ H2 => ∃ ps : List Addr, ys = ps.map V.ref ∧ ps.length = i ∧ i ≤ m.toNat ∧ Same H H2 ∧ H2 d = some (.lst ys) ∧ ps.Nodup ∧ ∀ q ∈ ps, H2 q = some (.lst []) ∧ H q = none ∧ q ≠ d)
      ⟨[], rfl, rfl, Nat.zero_le _, Same.new hd, upd_same, List.nodup_nil, fun q hq => by cases hq⟩ ?_ ?_ ?_
    · rintro i ys σ H2 ⟨ps, rfl, hl, hi, _, hd2, _, _⟩
      refine ⟨hd2, small1000 ?_⟩
      rw [List.length_map]; omega
    · rintro i ys σ H2 hi ⟨ps, rfl, hl, _, s2, hd2, hnd, hps⟩
      unfold gName
      dsimp only
      refine yes_of ?_
      refine ⟨Nat.zero_le _, fun q hq => ?_⟩
      have nqd : d ≠ q := ne_of_none hd2 hq
      have s3 := s2.trans (Same.new (o := .lst []) hq)
      have hqH : H q = none := s2.free hq
      refine ⟨by rw [upd_ne nqd]; exact hd2, Nxt.mk hi ⟨ps ++ [q], by rw [List.map_append]; rfl, by rw [List.length_append, hl]; rfl, hi, fun b o e => ?_, upd_same, ?_, fun r hr => ?_⟩⟩
      · rw [upd_ne (ne_of_none e hd)]
        exact s3 b o e
      · rw [List.nodup_append]
        refine ⟨hnd, by simp, fun a ha b hb => ?_⟩
        rw [List.mem_singleton] at hb
        subst hb
        exact ne_of_none (hps a ha).1 hq
      · rcases List.mem_append.mp hr with hr | hr
        · obtain ⟨a1, a2, a3⟩ := hps r hr
          refine ⟨?_, a2, a3⟩
          rw [upd_ne a3, upd_ne (ne_of_none a1 hq)]
          exact a1
        · rw [List.mem_singleton] at hr
          subst hr
          refine ⟨?_, hqH, nqd.symm⟩
          rw [upd_ne nqd.symm, upd_same]
    · rintro ys σ0 H2 ⟨ps, rfl, hl, _, s2, hd2, hnd, hps⟩
      refine ⟨_, rfl, e, rfl, ⟨_, s2.seq hS⟩, for_list (K := K) (a := e) (xs := rs.map V.ref)
        (fun i σ H3 => ∃ e3 e4, σ = [some (.int m), some (.ref e), some (.ref d), e3, e4] ∧ Same H H3 ∧ H3 d = some (.lst (ps.map V.ref)) ∧ ∀ (j : Nat) q, ps[j]? = some q → H3 q = some (.lst ((nbM (ts.take i) j).map V.int)))
        ⟨none, none, rfl, s2, hd2, fun j q hq => by rw [(hps q (List.mem_of_getElem? hq)).1]; rfl⟩ (fun i σ H3 _ ⟨_, _, _, s3, _⟩ => s3.seq hS) ?_ ?_⟩
      · rintro i x σ H3 hi ⟨e3, e4, rfl, s3, hd3, hq3⟩
        have hil : i < rs.length := by have := (List.getElem?_eq_some_iff.mp hi).1; rw [List.length_map] at this; exact this
        obtain ⟨r, rfl, er⟩ : ∃ r, x = V.ref r ∧ rs[i]? = some r := by
          rw [List.getElem?_map] at hi
          cases q : rs[i]? with
          | none => rw [q] at hi; cases hi
          | some r => rw [q] at hi; exact ⟨r, (Option.some.inj hi).symm, rfl⟩
        obtain ⟨t, et, ht, _⟩ := Sx.pair_at (i := i) (a := r) hT er
        obtain ⟨a, b, rfl, ha0, hab, hb⟩ := hts t (List.mem_of_getElem? et)
        have htk : ts.take (i + 1) = ts.take i ++ [[a, b]] := by rw [List.take_succ, et]; rfl
        have at_ : ∀ z : Int, 0 ≤ z → z < m → ∃ q, ps[z.toNat]? = some q ∧ atI (ps.map V.ref) z = some (V.ref q) := fun z h0 h1 => by
          have hz : z.toNat < ps.length := by omega
          refine ⟨ps[z.toNat], by simp [hz], ?_⟩
          have := atI_nat (xs := ps.map V.ref) (j := z.toNat) (v := .ref ps[z.toNat]) (by simp [hz])
          rwa [Int.toNat_of_nonneg h0] at this
        have lnb : ∀ j : Nat, ((nbM (ts.take i) j).map V.int).length ≤ 2 * i := fun j => by
          rw [List.length_map]
          have := nbM_len (j : Int) (ts.take i)
          rw [List.length_take] at this
          omega
        obtain ⟨qa, eqa, ata⟩ := at_ a ha0 (by omega)
        obtain ⟨qb, eqb, atb⟩ := at_ b (by omega) hb
        have hxa := hq3 _ _ eqa
        have hxb := hq3 _ _ eqb
        have nab : qb ≠ qa := fun z => by
          subst z
          have := ix_inj hnd eqa eqb
          omega
        obtain ⟨_, fa, na⟩ := hps qa (List.mem_of_getElem? eqa)
        obtain ⟨_, fb, nb⟩ := hps qb (List.mem_of_getElem? eqb)
        refine ⟨r, _, rfl, SqT.of (s3 r _ ht), rfl, _, _, rfl, _, _, rfl, rfl, ?_⟩
        have la := lnb a.toNat
        have lb := lnb b.toNat
        refine ⟨_, rfl, _, rfl, d, _, a, _, rfl, rfl, SqL.of hd3, ata, .inl ⟨rfl, _, SqL.of hxa⟩, _, rfl, qa, _, _, rfl, rfl, hxa, small1000 (by omega), ?_⟩
        have hd4 : upd H3 qa (.lst ((nbM (ts.take i) a.toNat).map V.int ++ [.int b])) d = some (.lst (ps.map V.ref)) := by rw [upd_ne na.symm]; exact hd3
        have hxb4 : upd H3 qa (.lst ((nbM (ts.take i) a.toNat).map V.int ++ [.int b])) qb = some (.lst ((nbM (ts.take i) b.toNat).map V.int)) := by rw [upd_ne nab]; exact hxb
        refine ⟨_, rfl, _, rfl, d, _, b, _, rfl, rfl, SqL.of hd4, atb, .inl ⟨rfl, _, SqL.of hxb4⟩, _, rfl, qb, _, _, rfl, rfl, hxb4, small1000 (by omega), ?_⟩
        refine ⟨_, _, rfl, fun c o ec => ?_, by rw [upd_ne nb.symm]; exact hd4, fun j q hq => ?_⟩
        · rw [upd_ne (ne_of_none ec fb), upd_ne (ne_of_none ec fa)]
          exact s3 c o ec
        · rw [htk, nbM_snoc]
          by_cases z : q = qb
          · subst z
            have e := ix_inj hnd hq eqb
            subst e
            rw [upd_same, if_neg (by omega), if_pos (by omega), List.nil_append, List.map_append]
            rfl
          · by_cases z2 : q = qa
            · subst z2
              have e := ix_inj hnd hq eqa
              subst e
              rw [upd_ne z, upd_same, if_pos (by omega), if_neg (by omega), List.append_nil, List.map_append]
              rfl
            · have n1 : ¬ a = (j : Int) := fun k => z2 (Option.some.inj (hq.symm.trans (by rw [← eqa]; congr 1; omega)))
              have n2 : ¬ b = (j : Int) := fun k => z (Option.some.inj (hq.symm.trans (by rw [← eqb]; congr 1; omega)))
              rw [upd_ne z, upd_ne z2, if_neg n1, if_neg n2, List.append_nil, List.append_nil]
              exact hq3 j q hq
      · rintro σ H3 ⟨e3, e4, rfl, s3, hd3, hq3⟩
        have lrs := Paired.length hT
        rw [List.length_map, lrs, List.take_length] at hq3
        exact ⟨_, rfl, hQ d H3 s3 ⟨ps, hd3, hl, hq3, hd, fun q hq => (hps q hq).2.1⟩⟩
end
end K15

/-! ### k15: Web -/
namespace K15
open PySem L2 PyProof.Rows
section
variable {P : Program} {w : World} {K : PySem.W.Frag} {mg : Str → Option Value} {base : Heap}
theorem putF_len (f : Str) (v : V) : ∀ l : List (Str × V), (putF f v l).length ≤ l.length + 1
  | [] => Nat.le_refl _
  | p :: r => by
    obtain ⟨g, u⟩ := p
    show (if g = f then (g, v) :: r else (g, u) :: putF f v r).length ≤ _
    split
    · exact Nat.le_succ _
    · have := putF_len f v r
      simp only [List.length_cons]
      omega
/-- the weight of a key -/
def wt (T : List Mt.Tri) (k : List Int) : Int := match valV (wd T) (k.map Sum.inl) with | some (.int z) => z | _ => 0
theorem wt_get {T : List Mt.Tri} {t : Mt.Tri} (h : t ∈ T) : ∃ z, valV (wd T) (kk t) = some (.int z) := by
  have e := wd_some T t
  rw [List.any_eq_true.mpr ⟨Mt.key t, List.mem_map.mpr ⟨t, h, rfl⟩, decide_eq_true rfl⟩] at e
  obtain ⟨v, hv⟩ := Option.isSome_iff_exists.mp e
  unfold valV at hv
  cases q : (wd T).find? fun kv => decide (kv.1 = kk t) with
  | none => rw [q] at hv; cases hv
  | some p =>
    obtain ⟨u, _, eu⟩ := List.mem_map.mp (List.mem_of_find?_eq_some q)
    unfold valV
    rw [q, ← eu]
    exact ⟨_, rfl⟩
theorem wt_val {T : List Mt.Tri} {t : Mt.Tri} (h : t ∈ T) : valV (wd T) (kk t) = some (.int (wt T (Mt.key t))) := by
  obtain ⟨z, hz⟩ := wt_get h
  have e : wt T (Mt.key t) = z := by
    unfold wt
    rw [show valV (wd T) ((Mt.key t).map Sum.inl) = some (.int z) from hz]
  rw [e, hz]
theorem wt_of : ∀ {T : List Mt.Tri}, (T.map Mt.key).Nodup → ∀ t ∈ T, valV (wd T) (kk t) = some (.int t.2.2)
  | [], _, _, h => nomatch h
  | u :: T, hn, t, h => by
    obtain ⟨h1, h2⟩ := List.nodup_cons.mp hn
    by_cases e : kk u = kk t
    · have e' : Mt.key u = Mt.key t := inl_inj e
      rcases List.mem_cons.mp h with rfl | h
      · show ((wd (t :: T)).find? _).map _ = _
        unfold wd
        rw [List.map_cons, List.find?_cons_of_pos (by simp)]
        rfl
      · exact absurd (List.mem_map.mpr ⟨t, h, e'.symm⟩) h1
    · rcases List.mem_cons.mp h with rfl | h
      · exact absurd rfl e
      · have := wt_of h2 t h
        unfold valV at this ⊢
        unfold wd at this ⊢
        rw [List.map_cons, List.find?_cons_of_neg (by simpa using e)]
        exact this
/-- a Web of m points and the ties T stands at p -/
structure WebAt (C : Addr) (H : Hp) (p : Addr) (m : Int) (T : List Mt.Tri) (ks : List (List Int)) : Prop where
  ex : ∃ (dx d l n : Addr) (fs : List (Str × V)) (qs : List Addr), H p = some (.ins C dx fs) ∧ fs.lookup ("many" : Str) = some (.int m) ∧ fs.lookup ("weights" : Str) = some (.ref d) ∧ fs.lookup ("ties_sorted" : Str) = some (.ref l) ∧
    fs.lookup ("neighbours" : Str) = some (.ref n) ∧ (fs.lookup ("size" : Str) = none ∧ fs.lookup ("ties" : Str) = none ∧ fs.lookup ("weight" : Str) = none ∧ fs.lookup ("tied" : Str) = none) ∧ H d = some (.dT (wd T)) ∧ H l = some (.lst (qs.map V.ref)) ∧
    TupsH H qs (ks.map fun k => k ++ [wt T k]) ∧ NbAt H n m ks ∧ qs.length ≤ 300
  pm : ks.Perm (T.map Mt.key)
  srt : ks.Pairwise (fun a b => HT.lexLt b a = false)
  m0 : 0 ≤ m
  m1 : m ≤ 24
  ok : Mt.scan m T [] = .good
theorem WebAt.same {C : Addr} {H H' : Hp} {p : Addr} {m : Int} {T : List Mt.Tri} {ks : List (List Int)} (s : Same H H') (W : WebAt C H p m T ks) : WebAt C H' p m T ks := by
  obtain ⟨dx, d, l, n, fs, qs, h1, h2, h3, h4, h5, h6, h7, h8, h9, h10, h11⟩ := W.ex
  exact ⟨⟨dx, d, l, n, fs, qs, s _ _ h1, h2, h3, h4, h5, h6, s _ _ h7, s _ _ h8, TupsH.same s h9, h10.at' fun b xs e => s _ _ e, h11⟩, W.pm, W.srt, W.m0, W.m1, W.ok⟩
/-- as WebAt, the lists all such as N says -/
structure WebN (C : Addr) (H : Hp) (p : Addr) (m : Int) (T : List Mt.Tri) (ks : List (List Int)) (N : Addr → Prop) : Prop where
  ex : ∃ (dx d l n : Addr) (fs : List (Str × V)) (qs : List Addr), H p = some (.ins C dx fs) ∧ fs.lookup ("many" : Str) = some (.int m) ∧ fs.lookup ("weights" : Str) = some (.ref d) ∧ fs.lookup ("ties_sorted" : Str) = some (.ref l) ∧
    fs.lookup ("neighbours" : Str) = some (.ref n) ∧ (fs.lookup ("size" : Str) = none ∧ fs.lookup ("ties" : Str) = none ∧ fs.lookup ("weight" : Str) = none ∧ fs.lookup ("tied" : Str) = none) ∧ H d = some (.dT (wd T)) ∧ H l = some (.lst (qs.map V.ref)) ∧
    TupsH H qs (ks.map fun k => k ++ [wt T k]) ∧ NbN H n m ks N ∧ qs.length ≤ 300 ∧ N l
  pm : ks.Perm (T.map Mt.key)
  srt : ks.Pairwise (fun a b => HT.lexLt b a = false)
  m0 : 0 ≤ m
  m1 : m ≤ 24
  ok : Mt.scan m T [] = .good
theorem WebN.web {C : Addr} {H : Hp} {p : Addr} {m : Int} {T : List Mt.Tri} {ks : List (List Int)} {N : Addr → Prop} (W : WebN C H p m T ks N) : WebAt C H p m T ks := by
  obtain ⟨dx, d, l, n, fs, qs, h1, h2, h3, h4, h5, h6, h7, h8, h9, h10, h11, _⟩ := W.ex
  exact ⟨⟨dx, d, l, n, fs, qs, h1, h2, h3, h4, h5, h6, h7, h8, h9, h10.nb, h11⟩, W.pm, W.srt, W.m0, W.m1, W.ok⟩
def spInit (C CT CB C2 : Addr) (K : PySem.W.Frag) : Sp := fun vs H Q E => ∃ (p : Addr) (m : Int) (l dx : Addr) (rs : List Addr) (T : List Mt.Tri), vs = [.ref p, .int m, .ref l] ∧ H p = some (.ins C dx []) ∧ RowsAt K H l rs T ∧ T.length ≤ 300 ∧
  ((m < 0 ∨ 24 < m) → ∀ H', Same H H' → E (.ref CT) none H') ∧ (¬ (m < 0 ∨ 24 < m) →
    (Mt.scan m T [] = .bad → ∀ H', Same H H' → E (.ref CB) none H') ∧ (Mt.scan m T [] = .twice → ∀ H', Same H H' → E (.ref C2) none H') ∧
    (Mt.scan m T [] = .good → ∀ H' ks, (∀ b o, H b = some o → b ≠ p → H' b = some o) → WebN C H' p m T ks (fun b => H b = none) → Q .non H'))
theorem scInit : FnScope ["self", "many", "ties", "weights", "ends_sorted"] ["self", "many", "ties"] (defScope sInit) := ⟨rfl, rfl, rfl, by decide +kernel, rfl, by decide +kernel, by decide +kernel⟩
def compI : Scope := { kind := .function, names := [(Str.ofString ".0", .local), (Str.ofString "a", .local), (Str.ofString "b", .local), (Str.ofString "weights", .free)], isGenerator := false, isCoroutine := false, more := [] }
theorem nd_own2 : ([".0", "a", "b", "weights"] : List Str).Nodup := by decide +kernel
theorem capsI {CX : CXT} {f : Addr} {cdv : Value} {A : Around} {outer : List Env} {s : Shared} {H : Hp} {E : XK} :
    Caps (cxOf CX P w K mg base ["self", "many", "ties", "weights", "ends_sorted"] "Web.__init__" (defScope sInit) f cdv A outer s H E) compI [(Str.ofString "weights", s.heap.objs.size + 1)] [".0", "a", "b"] ["weights"] [3] := by
  have e1 : (cxOf CX P w K mg base ["self", "many", "ties", "weights", "ends_sorted"] "Web.__init__" (defScope sInit) f cdv A outer s H E).env.cells = [(Str.ofString "weights", s.heap.objs.size + 1)] := by rfl
  have e2 : (relabel compI (cxOf CX P w K mg base ["self", "many", "ties", "weights", "ends_sorted"] "Web.__init__" (defScope sInit) f cdv A outer s H E).env).names = [(Str.ofString ".0", .local), (Str.ofString "a", .local), (Str.ofString "b", .local), (Str.ofString "weights", .cell)] := by rfl
  refine ⟨rfl, fun x c h => by rw [e1]; exact h, rfl, by decide +kernel, by decide +kernel, fun x hx => ?_, rfl, fun i x e => ?_⟩
  · rw [e2] at hx
    have hx : x = Str.ofString "weights" := by
      rcases hx with hx | hx
      all_goals
        have := PySem.mem_of_lookup hx
        simpa using this
    subst hx
    exact ⟨_, rfl⟩
  · match i, e with
    | 0, e =>
      cases (Option.some.inj e)
      exact ⟨3, rfl, rfl, rfl, rfl, by rw [e2]; rfl⟩
    | n + 1, e => cases e
end
end K15

/-! ### k15: __init__ and ties -/
namespace K15
open PySem L2 PyProof.Rows
section
variable {P : Program} {w : World} {K : PySem.W.Frag} {mg : Str → Option Value} {base : Heap}
/-- what is asked of the class Web as the top has made it -/
structure TxtW (K : PySem.W.Frag) (mg : Str → Option Value) (C : Addr) : Prop where
  cl : Cls K C
  n1 : NoAttr K C "many"
  n2 : NoAttr K C "weights"
  n3 : NoAttr K C "ties_sorted"
  n4 : NoAttr K C "neighbours"
  mgC : mg "Web" = some (.ref C)
  srt : mg "sorted" = none
  lst : mg "list" = none
theorem tk1 {H H' : Hp} {p : Addr} {C dx : Addr} {fs : List (Str × V)} (s : Same H H') (h : H p = some (.ins C dx fs)) : H' p = some (.ins C dx fs) := s p _ h
theorem ok_init {f fS fW fN C CT CB C2 : Addr} {fd fdS fdW fdN : FuncData} (F : Fun K "__init__" "Web.__init__" sInit f fd) (T0 : TxtW K mg C)
    (GS : FnOk P w K mg base (CXx P w) 1 fS fdS ["many"] (spSize CT)) (mS : mg "check_size" = some (.ref fS)) (kS : PySem.W.keepIn K (.ref fS) = true) (bS : Binds K fdS ["many"] [])
    (GW : FnOk P w K mg base (CXx P w) 2 fW fdW ["many", "ties"] (spWts CB C2 K)) (mW : mg "weights_of" = some (.ref fW)) (kW : PySem.W.keepIn K (.ref fW) = true) (bW : Binds K fdW ["many", "ties"] [])
    (GN : FnOk P w K mg base CX0 1 fN fdN ["many", "ends_sorted"] (spNb K)) (mN : mg "neighbours_of" = some (.ref fN)) (kN : PySem.W.keepIn K (.ref fN) = true) (bN : Binds K fdN ["many", "ends_sorted"] []) :
    FnOk P w K mg base (CXx P w) 3 f fd ["self", "many", "ties"] (spInit C CT CB C2 K) := by
  refine F.okX scInit (fun vs H Q E h => ?_) (fun cdv A outer s H vs Q E hr h => ?_)
  · obtain ⟨p, m, l, dx, rs, T, rfl, _⟩ := h
    rfl
  · obtain ⟨p, m, l, dx, rs, T, rfl, hp, R, h64, hT, hE⟩ := h
    have hu := hu_of hr
    have hr1 : Room 1 _ := hr.mono (by decide)
    refine ⟨_, pss_cons (ps_expr (pe_call GS hr1 rfl mS kS bS .nil passX (pa_cons (pv 1) pa_nil)))
      (pss_cons (ps_set (i := 3) scInit.nd rfl (Or.inr rfl) (pe_call GW hr rfl mW kW bW .nil passX (pa_cons (pv 1) (pa_cons (pv 2) pa_nil))))
      (pss_cons (ps_set (i := 4) scInit.nd rfl (Or.inl rfl) (pe_callB (call_sortedDB rfl) (by rfl) T0.srt boot_sorted (pa_cons (pv 3) pa_nil)))
      (pss_cons (ps_fld (pv 0) (pv 1) rfl)
      (pss_cons (ps_fld (pv 0) (pv 3) rfl)
      (pss_cons (ps_fld (pv 0) (pe_comp (g := gTup K 2 (gCons (gName 1) (gCons (gName 2) gNil))) (own := [".0", "a", "b"]) (caps := ["weights"]) (js := [3]) rfl capsI (pi_list (pv 4))
          (fun pins C s H1 fp => pg_tup (n := 2) rfl (pgs_cons (pg_name (i := 1) nd_own2 rfl (Or.inl rfl) (Or.inr rfl)) (pgs_cons (pg_name (i := 2) nd_own2 rfl (Or.inl rfl) (Or.inr rfl)) pgs_nil)))
          (fun pins C s H1 fp => pts_nil)
          (fun pins C s H1 fp => pe_tup (pa_cons (pv 1) (pa_cons (pv 2) (pa_cons (pe_dget hu (pv 3) (pe_tup (pa_cons (pv 1) (pa_cons (pv 2) pa_nil))) (fun _ _ => rfl)) pa_nil))))) rfl)
      (pss_one (ps_fld (pv 0) (pe_call GN hr1 rfl mN kN bN .nil pass0 (pa_cons (pv 1) (pa_cons (pv 4) pa_nil))) rfl))))))), ?_⟩
    -- check_size(many)
    refine ⟨_, rfl, m, rfl, fun c => hT c H (Same.refl H), fun c => ?_⟩
    obtain ⟨hB, h2, hG⟩ := hE c
    -- weights = weights_of(many, ties)
    refine ⟨_, rfl, _, rfl, m, l, rs, T, rfl, R, by omega, hB, h2, fun sg d H1 hd s1 hd1 => ?_⟩
    obtain ⟨hnd, hnb⟩ := Mt.scan_good sg List.nodup_nil
    rw [List.nil_append] at hnd
    -- ends_sorted = sorted(weights)
    refine ⟨_, rfl, d, wd T, T.map Mt.key, rfl, hd1, ?_, ?_, ?_, fun qs qs' ks q hqs hS hq => ?_⟩
    · unfold wd; rw [List.map_map, List.map_map]; rfl
    · intro t ht
      obtain ⟨u, _, rfl⟩ := List.mem_map.mp ht
      exact fun z => by cases z
    · unfold wd; rw [List.length_map]; omega
    obtain ⟨hqs', hperm, hlen⟩ := hqs.sorted hS
    have lq : qs'.length = ks.length := Paired.length hqs'
    have lk : ks.length = T.length := by rw [hperm.length_eq, List.length_map]
    have kin : ∀ k ∈ ks, ∃ t ∈ T, Mt.key t = k := fun k hk => List.mem_map.mp (hperm.mem_iff.mp hk)
    have s2 : Same H1 (upd H1 q (.lst (qs'.map V.ref))) := Same.new hq
    have hp2 := tk1 s2 (tk1 s1 hp)
    have hd2 := s2 d _ hd1
    have hq2 : upd H1 q (.lst (qs'.map V.ref)) q = some (.lst (qs'.map V.ref)) := upd_same
    have npd : d ≠ p := ne_of hd2 hp2 (by intro z; cases z)
    have npq : q ≠ p := ne_of hq2 hp2 (by intro z; cases z)
    have hqsA := TupsH.same s2 hqs'
    generalize upd H1 q (.lst (qs'.map V.ref)) = H2 at s2 hp2 hd2 hq2 hqsA ⊢
    have s02 : Same H H2 := s1.trans s2
    -- self.many = many; self.weights = weights
    refine ⟨_, rfl, _, rfl, p, C, dx, _, rfl, hp2, T0.cl, T0.n1, (by show 0 < 1000; decide), ?_⟩
    refine ⟨_, rfl, _, rfl, p, C, dx, _, rfl, upd_same, T0.cl, T0.n2, Nat.lt_of_le_of_lt (putF_len _ _ _) (by show 0 + 1 < 1000; decide), ?_⟩
    rw [upd_upd]
    generalize hF : putF "weights" (V.ref d) (putF "many" (V.int m) []) = F2
    have lF : F2.length ≤ 2 := by
      rw [← hF]
      exact Nat.le_trans (putF_len _ _ _) (Nat.succ_le_succ (putF_len _ _ _))
    have k3 : ∀ b o, H2 b = some o → b ≠ p → upd H2 p (.ins C dx F2) b = some o := fun b o e n => by rw [upd_ne n]; exact e
    have tup3 : ∀ {qs : List Addr} {us : List (List Int)}, TupsH H2 qs us → TupsH (upd H2 p (.ins C dx F2)) qs us := fun {qs us} h =>
      zip_paired (Paired.length h) fun z hz => ⟨k3 _ _ (paired_zip h z hz).1 (ne_of (paired_zip h z hz).1 hp2 (by intro y; cases y)), (paired_zip h z hz).2⟩
    have hp3 : upd H2 p (.ins C dx F2) p = some (.ins C dx F2) := upd_same
    have hd3 := k3 d _ hd2 npd
    have hq3 := k3 q _ hq2 npq
    have hqs3 := tup3 hqsA
    generalize upd H2 p (.ins C dx F2) = H3 at k3 hp3 hd3 hq3 hqs3 ⊢
    -- self.ties_sorted = [...]
    refine ⟨_, rfl, q, rfl, ⟨_, SqL.of hq3⟩, fun D hD => ?_⟩
    refine turns_list (K := K) (a := q) (xs := qs'.map V.ref) (fun i ys σ H4 => ∃ (zs : List Addr) (e0 e1 e2 : Option V), ys = zs.map V.ref ∧ σ = [e0, e1, e2, some (.ref d)] ∧ Same H3 H4 ∧ H4 D = some (.lst ys) ∧
        TupsH H4 zs ((ks.take i).map fun k => k ++ [wt T k])) ⟨[], none, none, none, rfl, rfl, Same.new hD, upd_same, .nil⟩ ?_ ?_ ?_
    · rintro i ys σ H4 ⟨zs, e0, e1, e2, rfl, rfl, s4, hD4, hz⟩
      refine ⟨hD4, small1000 ?_, SqL.of (s4 q _ hq3)⟩
      have := Paired.length hz
      rw [List.length_map, List.length_take] at this
      rw [List.length_map]
      omega
    · rintro i x ys σ H4 hi ⟨zs, e0, e1, e2, rfl, rfl, s4, hD4, hz⟩
      have hil : i < qs'.length := by have := (List.getElem?_eq_some_iff.mp hi).1; rw [List.length_map] at this; exact this
      obtain ⟨r, rfl, er⟩ : ∃ r, x = V.ref r ∧ qs'[i]? = some r := by
        rw [List.getElem?_map] at hi
        cases y : qs'[i]? with
        | none => rw [y] at hi; cases hi
        | some r => rw [y] at hi; exact ⟨r, (Option.some.inj hi).symm, rfl⟩
      obtain ⟨k, ek, hk, _⟩ := Sx.pair_at (i := i) (a := r) hqs3 er
      obtain ⟨t, ht, rfl⟩ := kin k (List.mem_of_getElem? ek)
      refine ⟨r, _, rfl, SqT.of (s4 r _ hk), rfl, _, _, rfl, _, _, rfl, rfl, ?_⟩
      dsimp only
      refine yes_of ?_
      refine ⟨_, rfl, _, rfl, _, rfl, _, rfl, _, rfl, (by show 2 ≤ sizeLine; decide), fun y hy => ?_⟩
      have s5 : Same H4 (upd H4 y (.tup [.int (Mt.lo t.1 t.2.1), .int (Mt.hi t.1 t.2.1)])) := Same.new hy
      have hy5 : upd H4 y (.tup [.int (Mt.lo t.1 t.2.1), .int (Mt.hi t.1 t.2.1)]) y = some (.tup ((kk t).map kV)) := upd_same
      have hd5 := s5 d _ (s4 d _ hd3)
      refine ⟨d, .int (wt T (Mt.key t)), rfl, ?_, (by show 3 ≤ sizeLine; decide), fun z hz' => ?_⟩
      · have g := DGet.t (k := kk t) hd5 hy5
        rw [wt_val ht] at g
        exact g
      have s6 := s5.trans (Same.new (o := .tup [.int (Mt.lo t.1 t.2.1), .int (Mt.hi t.1 t.2.1), .int (wt T (Mt.key t))]) hz')
      have hD6 := s6 D _ hD4
      have hz6 : upd (upd H4 y (.tup [.int (Mt.lo t.1 t.2.1), .int (Mt.hi t.1 t.2.1)])) z (.tup [.int (Mt.lo t.1 t.2.1), .int (Mt.hi t.1 t.2.1), .int (wt T (Mt.key t))]) z = some (.tup [.int (Mt.lo t.1 t.2.1), .int (Mt.hi t.1 t.2.1), .int (wt T (Mt.key t))]) := upd_same
      refine ⟨hD6, Nxt.mk (by rw [List.length_map]; exact hil) ⟨zs ++ [z], _, _, _, by rw [List.map_append]; rfl, rfl, fun b o e => ?_, upd_same, ?_⟩⟩
      · rw [upd_ne (ne_of_none e hD)]
        exact s6 b o (s4 b o e)
      · have nt : ∀ {qs : List Addr} {us : List (List Int)} {L : List V}, TupsH H4 qs us → TupsH (upd (upd (upd H4 y (.tup [.int (Mt.lo t.1 t.2.1), .int (Mt.hi t.1 t.2.1)])) z (.tup [.int (Mt.lo t.1 t.2.1), .int (Mt.hi t.1 t.2.1), .int (wt T (Mt.key t))])) D (.lst L)) qs us := fun {qs us L} h =>
          zip_paired (Paired.length h) fun g hg => ⟨by rw [upd_ne (ne_of (paired_zip h g hg).1 hD4 (by intro y; cases y))]; exact s6 _ _ (paired_zip h g hg).1, (paired_zip h g hg).2⟩
        rw [List.take_succ, ek, List.map_append]
        refine paired_snoc (nt hz) ⟨?_, fun z => by cases z⟩
        rw [upd_ne (ne_of hz6 hD6 (by intro y; cases y))]
        exact hz6
    · rintro ys σ H4 ⟨zs, e0, e1, e2, rfl, rfl, s4, hD4, hz⟩
      rw [List.length_map, lq, List.take_length] at hz
      have lz := Paired.length hz
      rw [List.length_map] at lz
      have hp4 := s4 p _ hp3
      have npD : D ≠ p := ne_of hD4 hp4 (by intro z; cases z)
      refine ⟨_, rfl, p, C, dx, _, rfl, hp4, T0.cl, T0.n3, (by omega), ?_⟩
      generalize hF3 : putF "ties_sorted" (V.ref D) F2 = F3
      have lF3 : F3.length ≤ 3 := by
        rw [← hF3]
        exact Nat.le_trans (putF_len _ _ _) (Nat.succ_le_succ lF)
      have k5 : ∀ b o, H4 b = some o → b ≠ p → upd H4 p (.ins C dx F3) b = some o := fun b o e n => by rw [upd_ne n]; exact e
      have hq5 := k5 q _ (s4 q _ hq3) npq
      have hqs4 := TupsH.same s4 hqs3
      have tup5 : ∀ {qs : List Addr} {us : List (List Int)}, TupsH H4 qs us → TupsH (upd H4 p (.ins C dx F3)) qs us := fun {qs us} h =>
        zip_paired (Paired.length h) fun z hz => ⟨k5 _ _ (paired_zip h z hz).1 (ne_of (paired_zip h z hz).1 hp4 (by intro y; cases y)), (paired_zip h z hz).2⟩
      have hp5 : upd H4 p (.ins C dx F3) p = some (.ins C dx F3) := upd_same
      have hD5 := k5 D _ hD4 npD
      have hqs5 := tup5 hqs4
      have hz5 := tup5 hz
      -- self.neighbours = neighbours_of(many, ends_sorted)
      refine ⟨_, rfl, _, rfl, m, q, qs', ks, rfl, by omega, by omega, SqL.of hq5, hqs5, by omega, fun k hk => ?_, fun n H6 s6 nb6 => ?_⟩
      · obtain ⟨t, ht, rfl⟩ := kin k hk
        obtain ⟨r1, r2, r3⟩ := Mt.key_range (hnb t ht)
        exact ⟨_, _, rfl, r1, r2, r3⟩
      · have hp6 := s6 p _ hp5
        have hd6 := s6 d _ (k5 d _ (s4 d _ hd3) npd)
        refine ⟨_, rfl, p, C, dx, _, rfl, hp6, T0.cl, T0.n4, (by omega), ?_⟩
        have k7 : ∀ (fs : List (Str × V)) b o, H6 b = some o → b ≠ p → upd H6 p (.ins C dx fs) b = some o := fun fs b o e n => by rw [upd_ne n]; exact e
        have old : ∀ b, b ≠ p → upd H4 p (.ins C dx F3) b = none → H b = none := fun b nb q => by
          cases e : H b with
          | none => rfl
          | some o =>
            have := k5 b o (s4 b o (k3 b o (s02 b o e) nb)) nb
            rw [q] at this
            cases this
        have fD : H D = none := by
          cases e : H D with
          | none => rfl
          | some o =>
            have := k3 D o (s02 D o e) npD
            rw [hD] at this
            cases this
        refine hG sg _ ks (fun b o e n => ?_) ⟨⟨dx, d, D, n, _, zs, upd_same, ?_, ?_, ?_, ?_, ⟨?_, ?_, ?_, ?_⟩, k7 _ d _ hd6 npd, k7 _ D _ (s6 D _ hD5) npD, ?_, nb6.at' (fun b xs _ e => k7 _ b _ e (ne_of e hp6 (by intro z; cases z))) (fun b xs q e => old b (ne_of e hp6 (by intro z; cases z)) q), by omega, fD⟩, hperm, hS.ord, by omega, by omega, sg⟩
        · exact k7 _ b o (s6 b o (k5 b o (s4 b o (k3 b o (s02 b o e) n)) n)) n
        · rw [lookup_putF, if_neg (by decide +kernel), ← hF3, lookup_putF, if_neg (by decide +kernel), ← hF, lookup_putF, if_neg (by decide +kernel), lookup_putF, if_pos rfl]
        · rw [lookup_putF, if_neg (by decide +kernel), ← hF3, lookup_putF, if_neg (by decide +kernel), ← hF, lookup_putF, if_pos rfl]
        · rw [lookup_putF, if_neg (by decide +kernel), ← hF3, lookup_putF, if_pos rfl]
        · rw [lookup_putF, if_pos rfl]
        iterate 4
          · rw [lookup_putF, if_neg (by decide +kernel), ← hF3, lookup_putF, if_neg (by decide +kernel), ← hF, lookup_putF, if_neg (by decide +kernel), lookup_putF, if_neg (by decide +kernel)]
            rfl
        · exact zip_paired (Paired.length hz5) fun z hz => ⟨k7 _ _ _ (s6 _ _ (paired_zip hz5 z hz).1) (ne_of (s6 _ _ (paired_zip hz5 z hz).1) hp6 (by intro y; cases y)), (paired_zip hz5 z hz).2⟩
/-! size, ties, weight, tied -/
def spMSize (C : Addr) : Sp := fun vs H Q _ => ∃ (p : Addr) (m : Int) (T : List Mt.Tri) (ks : List (List Int)), vs = [.ref p] ∧ WebAt C H p m T ks ∧ Q (.int m) H
theorem scMSize : FnScope ["self"] ["self"] (defScope sMSize) := ⟨rfl, rfl, rfl, by decide +kernel, rfl, by decide +kernel, by decide +kernel⟩
theorem ok_msize {f C : Addr} {fd : FuncData} (F : Fun K "size" "Web.size" sMSize f fd) (T0 : TxtW K mg C) : FnOk P w K mg base CX0 1 f fd ["self"] (spMSize C) := by
  refine F.ok scMSize (fun vs H Q E h => ?_) (fun cdv A outer s H vs Q E hr h => ?_)
  · obtain ⟨p, m, T, ks, rfl, _⟩ := h
    rfl
  · obtain ⟨p, m, T, ks, rfl, W, hQ⟩ := h
    obtain ⟨dx, d, l, n, fs, qs, h1, h2, _⟩ := W.ex
    refine ⟨_, pss_one (ps_ret (pe_fld (pv 0) rfl)), ?_⟩
    exact ⟨_, rfl, p, C, dx, _, _, rfl, h1, T0.cl, T0.n1, h2, hQ⟩
/-- the ties as the web tells them -/
def tis (T : List Mt.Tri) (ks : List (List Int)) : List (List Int) := ks.map fun k => k ++ [wt T k]
def spTies (C : Addr) : Sp := fun vs H Q _ => ∃ (p : Addr) (m : Int) (T : List Mt.Tri) (ks : List (List Int)), vs = [.ref p] ∧ WebAt C H p m T ks ∧ ∀ (q : Addr) (qs : List Addr), H q = none → TupsH H qs (tis T ks) → Q (.ref q) (upd H q (.lst (qs.map V.ref)))
def spTied (C : Addr) : Sp := fun vs H Q _ => ∃ (p : Addr) (m : Int) (T : List Mt.Tri) (ks : List (List Int)) (a : Int), vs = [.ref p, .int a] ∧ WebAt C H p m T ks ∧ 0 ≤ a ∧ a < m ∧
  ∀ q : Addr, H q = none → Q (.ref q) (upd H q (.lst ((nbM ks a).map V.int)))
/-- the weight between two numbers, None where there is no tie -/
def wtV (T : List Mt.Tri) (a b : Int) : V := (valV (wd T) ([Mt.lo a b, Mt.hi a b].map Sum.inl)).getD .non
def spWeight (C : Addr) : Sp := fun vs H Q _ => ∃ (p : Addr) (m : Int) (T : List Mt.Tri) (ks : List (List Int)) (a b : Int), vs = [.ref p, .int a, .int b] ∧ WebAt C H p m T ks ∧ ∀ H', Same H H' → Q (wtV T a b) H'
theorem scWeight : FnScope ["self", "a", "b"] ["self", "a", "b"] (defScope sWeight) := ⟨rfl, rfl, rfl, by decide +kernel, rfl, by decide +kernel, by decide +kernel⟩
theorem ok_weight {f fO C : Addr} {fd fdO : FuncData} (F : Fun K "weight" "Web.weight" sWeight f fd) (T0 : TxtW K mg C)
    (GO : FnOk P w K mg base CX0 1 fO fdO ["a", "b"] spOrd) (mO : mg "ordered" = some (.ref fO)) (kO : PySem.W.keepIn K (.ref fO) = true) (bO : Binds K fdO ["a", "b"] []) : FnOk P w K mg base CX0 2 f fd ["self", "a", "b"] (spWeight C) := by
  refine F.ok scWeight (fun vs H Q E h => ?_) (fun cdv A outer s H vs Q E hr h => ?_)
  · obtain ⟨p, m, T, ks, a, b, rfl, _⟩ := h
    rfl
  · obtain ⟨p, m, T, ks, a, b, rfl, W, hQ⟩ := h
    have hu := hu_of hr
    obtain ⟨dx, d, l, n, fs, qs, h1, h2, h3, h4, h5, h6, h7, _⟩ := W.ex
    refine ⟨_, pss_one (ps_ret (pe_dget1 hu (pe_fld (pv 0) rfl) (pe_call GO (hr.mono (by decide)) rfl mO kO bO .nil pass0 (pa_cons (pv 1) (pa_cons (pv 2) pa_nil))) ⟨rfl, rfl, rfl, rfl⟩)), ?_⟩
    refine ⟨_, rfl, p, C, dx, _, _, rfl, h1, T0.cl, T0.n2, h3, d, rfl, .inr ⟨_, Rd.of h7⟩, _, rfl, _, rfl, a, b, rfl, fun q hq => ?_⟩
    have s1 : Same H (upd H q (.tup [.int (Mt.lo a b), .int (Mt.hi a b)])) := Same.new hq
    exact ⟨_, DGet.t (k := [Mt.lo a b, Mt.hi a b].map Sum.inl) (s1 d _ h7) upd_same, hQ _ s1⟩
end
end K15

/-! ### k15: the law's own helpers -/
namespace K15
open PySem L2 PyProof.Rows
section
variable {P : Program} {w : World} {K : PySem.W.Frag} {mg : Str → Option Value} {base : Heap}
def spCell (K : PySem.W.Frag) : Sp := fun vs H Q _ => ∃ (a : Addr) (ns : List Int) (k : Nat), vs = [.ref a, .int k] ∧ SqL K H a (ns.map V.int) ∧ ∀ n : Int, Q (.int n) H
theorem scCell : FnScope ["_law_script", "_law_k"] ["_law_script", "_law_k"] (defScope sCell) := ⟨rfl, rfl, rfl, by decide +kernel, rfl, by decide +kernel, by decide +kernel⟩
theorem ok_cell {f : Addr} {fd : FuncData} (F : Fun K "_law_cell_at" "_law_cell_at" sCell f fd) (glen : mg "len" = none) : FnOk P w K mg base CX0 1 f fd ["_law_script", "_law_k"] (spCell K) := by
  refine F.ok scCell (fun vs H Q E h => ?_) (fun cdv A outer s H vs Q E hr h => ?_)
  · obtain ⟨a, ns, k, rfl, _⟩ := h
    rfl
  · obtain ⟨a, ns, k, rfl, hS, hQ⟩ := h
    refine ⟨_, pss_cons (ps_if (pt_cmpR op_lt (pv 1) (pe_callB call_len_seq (by rfl) glen PySem.boot_len (pa_cons (pv 0) pa_nil)) (nomark _)) (pss_one (ps_ret (pe_ix ix_list (pv 0) (pv 1) (fun _ _ => rfl)))) pss_nil) (pss_one (ps_ret pe_int)), ?_⟩
    refine ⟨_, rfl, _, rfl, a, _, rfl, .inl hS, _, _, rfl, rfl, _, rfl, ?_⟩
    refine ite2 (fun c => ?_) (fun c => hQ 0)
    have c := of_decide_eq_true c
    rw [List.length_map] at c
    have hk : k < ns.length := by omega
    exact ⟨_, rfl, _, rfl, a, _, _, V.int ns[k], rfl, rfl, hS, atI_nat (by simp [hk]), hQ _⟩
def spMix : Sp := fun vs H Q _ => ∃ c f : Int, vs = [.int c, .int f] ∧ -(2 ^ 64) < f ∧ f < 2 ^ 64 ∧ ∀ n : Int, Q (.int n) H
theorem scMix : FnScope ["_law_cell", "_law_factor"] ["_law_cell", "_law_factor"] (defScope sMix) := ⟨rfl, rfl, rfl, by decide +kernel, rfl, by decide +kernel, by decide +kernel⟩
theorem ok_mix {f : Addr} {fd : FuncData} (F : Fun K "_law_mixed" "_law_mixed" sMix f fd) : FnOk P w K mg base CX0 1 f fd ["_law_cell", "_law_factor"] spMix := by
  refine F.ok scMix (fun vs H Q E h => ?_) (fun cdv A outer s H vs Q E hr h => ?_)
  · obtain ⟨c, g, rfl, _⟩ := h
    rfl
  · obtain ⟨c, g, rfl, g0, g1, hQ⟩ := h
    refine ⟨_, pss_one (ps_ret (pe_op op_mod (pe_op op_mul (pe_op op_add (pv 0) (pe_op op_mod (pv 1) pe_int)) (pv 1)) pe_int)), ?_⟩
    exact ⟨_, rfl, _, rfl, _, _, rfl, rfl, (by show (0 : Int) < 97; decide), _, _, rfl, rfl, _, rfl, _, _, rfl, rfl, .inr ⟨g0, g1⟩, _, _, rfl, rfl, (by show (0 : Int) < 2147483647; decide), hQ _⟩
/-- what isinstance says of ints and lists -/
structure Kit (K : PySem.W.Frag) (mg : Str → Option Value) : Prop where
  ii : PySem.W.kitOne K (.type "int") (.type "int") = some true
  ib : PySem.W.kitOne K (.type "int") (.type "bool") = some false
  ll : PySem.W.kitOne K (.type "list") (.type "list") = some true
  gis : mg "isinstance" = none
  gint : mg "int" = none
  gbool : mg "bool" = none
  glist : mg "list" = none
def spWhole : Sp := fun vs H Q _ => ∃ n : Int, vs = [.int n] ∧ Q (.bl true) H
theorem scWhole : FnScope ["_law_found"] ["_law_found"] (defScope sWhole) := ⟨rfl, rfl, rfl, by decide +kernel, rfl, by decide +kernel, by decide +kernel⟩
theorem ok_whole {f : Addr} {fd : FuncData} (F : Fun K "_law_whole" "_law_whole" sWhole f fd) (k : Kit K mg) : FnOk P w K mg base CX0 1 f fd ["_law_found"] spWhole := by
  refine F.ok scWhole (fun vs H Q E h => ?_) (fun cdv A outer s H vs Q E hr h => ?_)
  · obtain ⟨n, rfl, _⟩ := h
    rfl
  · obtain ⟨n, rfl, hQ⟩ := h
    refine ⟨_, pss_one (ps_ret (pe_and (pe_callB call_isV (by rfl) k.gis boot_isinstance (pa_cons (pv 0) (pa_cons (pe_bltn (v := .ty "int") (by rfl) k.gint bt_int rfl) pa_nil)))
      (pe_one (pe_not (pe_callB call_isV (by rfl) k.gis boot_isinstance (pa_cons (pv 0) (pa_cons (pe_bltn (v := .ty "bool") (by rfl) k.gbool bt_bool rfl) pa_nil))))))), ?_⟩
    exact ⟨_, rfl, V.int n, "int", .type "int", true, rfl, .int n, k.ii, ⟨true, rfl, iteT ⟨_, rfl, V.int n, "bool", .type "int", false, rfl, .int n, k.ib, ⟨false, rfl, hQ⟩⟩⟩⟩
/-! rows -/
def spRows (K : PySem.W.Frag) : Sp := fun vs H Q _ => ∃ (a : Addr) (m wy : Int) (ns : List Int), vs = [.ref a, .int m, .int wy] ∧ SqL K H a (ns.map V.int) ∧ ns.length ≤ 63 ∧ 0 ≤ m ∧ m ≤ 24 ∧
  ∀ (r : Addr) (rs : List Addr) (T : List Mt.Tri) (H' : Hp), Same H H' → H' r = some (.lst (rs.map V.ref)) → TupsH H' rs (T.map Mt.tri) → T.length ≤ 63 → Mt.scan m T [] = .good → Q (.ref r) H'
abbrev nmW : List Str := ["_law_script", "_law_many", "_law_way", "_law_rows_here", "_law_seen", "_law_cell", "_law_a", "_law_b", "_law_heavy"]
theorem scRows : FnScope nmW ["_law_script", "_law_many", "_law_way"] (defScope sRows) := ⟨rfl, rfl, rfl, by decide +kernel, rfl, by decide +kernel, by decide +kernel⟩
/-- the weight, maybe a great one -/
def tHvy : TS := fun D σ H => ∃ (wy c n : Int), σ[2]? = some (some (.int wy)) ∧ σ[5]? = some (some (.int c)) ∧ σ[8]? = some (some (.int n)) ∧ ∀ n' : Int, D.nx (σ.set 8 (some (.int n'))) H
/-- the tie is put behind both lists -/
def tApp : TS := fun D σ H => ∃ (r q : Addr) (xs ys : List V) (a b n : Int), σ[3]? = some (some (.ref r)) ∧ σ[4]? = some (some (.ref q)) ∧ σ[6]? = some (some (.int a)) ∧ σ[7]? = some (some (.int b)) ∧ σ[8]? = some (some (.int n)) ∧
  H r = some (.lst xs) ∧ H q = some (.lst ys) ∧ r ≠ q ∧ xs.length < 1000 ∧ ys.length < 1000 ∧ ∀ (t1 t2 : Addr) (H' : Hp), (∀ c o, H c = some o → c ≠ r → c ≠ q → H' c = some o) → H' r = some (.lst (xs ++ [.ref t2])) → H' q = some (.lst (ys ++ [.ref t1])) →
    H' t1 = some (.tup [.int (Mt.lo a b), .int (Mt.hi a b)]) → H' t2 = some (.tup [.int a, .int b, .int n]) → D.nx σ H'
/-- between two turns -/
def PRows (a r q l : Addr) (m wy : Int) (cut : List V) (H : Hp) (i : Nat) (σ : L2.St) (H3 : Hp) : Prop := ∃ (rs ss : List Addr) (T : List Mt.Tri) (e5 e6 e7 e8 : Option V), σ = [some (.ref a), some (.int m), some (.int wy), some (.ref r), some (.ref q), e5, e6, e7, e8] ∧ Same H H3 ∧
  H3 l = some (.lst cut) ∧ H3 r = some (.lst (rs.map V.ref)) ∧ H3 q = some (.lst (ss.map V.ref)) ∧ TupsH H3 rs (T.map Mt.tri) ∧ TupsH H3 ss (T.map Mt.key) ∧ T.length ≤ i ∧ (T.map Mt.key).Nodup ∧ ∀ t ∈ T, ¬ Mt.bad m t.1 t.2.1
theorem ok_rows {f fM : Addr} {fd fdM : FuncData} (F : Fun K "_law_rows" "_law_rows" sRows f fd) (gmin : mg "min" = none) (gmax : mg "max" = none)
    (GM : FnOk P w K mg base CX0 1 fM fdM ["_law_cell", "_law_factor"] spMix) (mM : mg "_law_mixed" = some (.ref fM)) (kM : PySem.W.keepIn K (.ref fM) = true) (bM : Binds K fdM ["_law_cell", "_law_factor"] []) :
    FnOk P w K mg base CX0 2 f fd ["_law_script", "_law_many", "_law_way"] (spRows K) := by
  refine F.ok scRows (fun vs H Q E h => ?_) (fun cdv A outer s H vs Q E hr h => ?_)
  · obtain ⟨a, m, wy, ns, rfl, _⟩ := h
    rfl
  · obtain ⟨a, m, wy, ns, rfl, hS, hns, m0, m1, hQ⟩ := h
    have hu := hu_of hr
    refine ⟨_, pss_cons (ps_set (i := 3) scRows.nd rfl (Or.inl rfl) (pe_lst pa_nil))
      (pss_cons (ps_set (i := 4) scRows.nd rfl (Or.inl rfl) (pe_lst pa_nil))
      (pss_cons (ps_for PassesOwn.never rfl (pi_list (pe_slice sl_list (pv 0) (po_some pe_int) (po_some pe_int))) (pg_name (i := 5) scRows.nd rfl (Or.inl rfl))
        (pss_cons (ps_set (i := 6) scRows.nd rfl (Or.inl rfl) (pe_op op_mod (pe_op op_fdiv (pe_call GM hr rfl mM kM bM .nil pass0 (pa_cons (pv 5) (pa_cons pe_int pa_nil))) pe_int) (pe_callB (call_max2 rfl) (by rfl) gmax boot_max (pa_cons pe_int (pa_cons (pv 1) pa_nil)))))
        (pss_cons (ps_set (i := 7) scRows.nd rfl (Or.inl rfl) (pe_op op_mod (pe_op op_fdiv (pe_call GM hr rfl mM kM bM .nil pass0 (pa_cons (pv 5) (pa_cons pe_int pa_nil))) pe_int) (pe_callB (call_max2 rfl) (by rfl) gmax boot_max (pa_cons pe_int (pa_cons (pv 1) pa_nil)))))
        (pss_cons (ps_set (i := 8) scRows.nd rfl (Or.inl rfl) (pe_op op_sub (pe_op op_mod (pe_call GM hr rfl mM kM bM .nil pass0 (pa_cons (pv 5) (pa_cons pe_int pa_nil))) pe_int) pe_int))
        (pss_cons (PS.imp (t' := tHvy) (ps_if (pt_cmpR op_eq (pv 2) pe_int (nomark _)) (pss_one (ps_set (i := 8) scRows.nd rfl (Or.inl rfl) (pe_op op_sub (pe_op op_mod (pv 5) (pe_op op_sub (pe_op op_mul pe_int (pe_op op_pow pe_int pe_int)) pe_int)) (pe_op op_sub (pe_op op_pow pe_int pe_int) pe_int)))) pss_nil) ?i1)
        (pss_one (ps_if (pw_and (pt_cmpR op_ne (pv 6) (pv 7) (nomark _)) (pw_and1 (pt_cmpR (op_notInT hu) (pe_tup (pa_cons (pe_callB (call_min2 rfl) (by rfl) gmin boot_min (pa_cons (pv 6) (pa_cons (pv 7) pa_nil)))
              (pa_cons (pe_callB (call_max2 rfl) (by rfl) gmax boot_max (pa_cons (pv 6) (pa_cons (pv 7) pa_nil))) pa_nil))) (pv 4) (by with_unfolding_all rfl)))).pt
          (PSs.imp (t' := tApp) (pss_cons (ps_expr (pe_bm PySem.F.plainAttrs_list PySem.F.slot_list_append PySem.F.type_list_append mt_append (pv 4) (pa_cons (pe_tup (pa_cons (pe_callB (call_min2 rfl) (by rfl) gmin boot_min (pa_cons (pv 6) (pa_cons (pv 7) pa_nil)))
              (pa_cons (pe_callB (call_max2 rfl) (by rfl) gmax boot_max (pa_cons (pv 6) (pa_cons (pv 7) pa_nil))) pa_nil))) pa_nil)))
          (pss_one (ps_expr (pe_bm PySem.F.plainAttrs_list PySem.F.slot_list_append PySem.F.type_list_append mt_append (pv 3) (pa_cons (pe_tup (pa_cons (pv 6) (pa_cons (pv 7) (pa_cons (pv 8) pa_nil)))) pa_nil))))) ?i2) pss_nil)))))))
      (pss_one (ps_ret (pv 3))))), ?_⟩
    case i1 =>
      rintro D σ H ⟨wy, c, n, e2, e5, e8, h⟩
      refine ⟨_, e2, rfl, _, rfl, ?_⟩
      refine ite2 (fun _ => ?_) (fun _ => ?_)
      · exact ⟨_, e5, _, _, rfl, rfl, ⟨by decide, by decide, by decide⟩, _, _, rfl, rfl, .inl ⟨by decide, by decide⟩, _, _, rfl, rfl, _, _, rfl, rfl, (by show (0 : Int) < 2 * 10 ^ (60 : Int).toNat - 1; decide), _, _, rfl, rfl, ⟨by decide, by decide, by decide⟩, _, _, rfl, rfl, _, _, rfl, rfl, h _⟩
      · have := h n
        rw [set_self e8] at this
        exact this
    case i2 =>
      rintro D σ H ⟨r, q, xs, ys, a, b, n, e3, e4, e6, e7, e8, hr, hq, nrq, lx, ly, h⟩
      refine ⟨_, e4, .inl ⟨rfl, _, SqL.of hq⟩, _, e6, _, e7, a, b, rfl, _, e6, _, e7, a, b, rfl, (by show 2 ≤ sizeLine; decide), fun t1 h1 => ?_⟩
      have n1 : q ≠ t1 := ne_of_none hq h1
      have n2 : r ≠ t1 := ne_of_none hr h1
      have hq1 : upd H t1 (.tup [.int (Mt.lo a b), .int (Mt.hi a b)]) q = some (.lst ys) := by rw [upd_ne n1]; exact hq
      refine ⟨q, ys, _, rfl, rfl, hq1, small1000 (by omega), ?_⟩
      have hr2 : upd (upd H t1 (.tup [.int (Mt.lo a b), .int (Mt.hi a b)])) q (.lst (ys ++ [.ref t1])) r = some (.lst xs) := by rw [upd_ne nrq, upd_ne n2]; exact hr
      have hq2 : upd (upd H t1 (.tup [.int (Mt.lo a b), .int (Mt.hi a b)])) q (.lst (ys ++ [.ref t1])) q = some (.lst (ys ++ [.ref t1])) := upd_same
      have ht2 : upd (upd H t1 (.tup [.int (Mt.lo a b), .int (Mt.hi a b)])) q (.lst (ys ++ [.ref t1])) t1 = some (.tup [.int (Mt.lo a b), .int (Mt.hi a b)]) := by rw [upd_ne n1.symm]; exact upd_same
      have k2 : ∀ c o, H c = some o → c ≠ r → c ≠ q → upd (upd H t1 (.tup [.int (Mt.lo a b), .int (Mt.hi a b)])) q (.lst (ys ++ [.ref t1])) c = some o := fun c o e n3 n4 => by rw [upd_ne n4, upd_ne (ne_of_none e h1)]; exact e
      refine ⟨_, e3, .inl ⟨rfl, _, SqL.of hr2⟩, _, e6, _, e7, _, e8, (by show 3 ≤ sizeLine; decide), fun t2 h2 => ?_⟩
      have m1 : r ≠ t2 := ne_of_none hr2 h2
      have m2 : q ≠ t2 := ne_of_none hq2 h2
      have m3 : t1 ≠ t2 := ne_of_none ht2 h2
      refine ⟨r, xs, _, rfl, rfl, (by rw [upd_ne m1]; exact hr2), small1000 (by omega), ?_⟩
      refine h t1 t2 _ (fun c o e n3 n4 => ?_) upd_same ?_ ?_ ?_
      · have e' := k2 c o e n3 n4
        rw [upd_ne n3, upd_ne (ne_of_none e' h2)]
        exact e'
      · rw [upd_ne nrq.symm, upd_ne m2]
        exact hq2
      · rw [upd_ne (ne_of ht2 hr2 (by intro z; cases z)), upd_ne m3]
        exact ht2
      · rw [upd_ne m1.symm]
        exact upd_same
    refine ⟨Nat.zero_le _, fun r hr0 => ⟨Nat.zero_le _, fun q hq0 => ?_⟩⟩
    have s1 : Same H (upd H r (.lst [])) := Same.new hr0
    have nrq : r ≠ q := ne_of_none upd_same hq0
    have s2 := s1.trans (Same.new (o := .lst []) hq0)
    have hq0H : H q = none := s1.free hq0
    have hr2 : upd (upd H r (.lst [])) q (.lst []) r = some (.lst []) := by rw [upd_ne nrq]; exact upd_same
    have hq2 : upd (upd H r (.lst [])) q (.lst []) q = some (.lst []) := upd_same
    generalize upd (upd H r (.lst [])) q (.lst []) = H2 at s2 hr2 hq2 ⊢
    refine ⟨_, rfl, 2, rfl, 64, rfl, a, _, rfl, s2.seq hS, fun l hl => ?_⟩
    have lc : (cutV (ns.map V.int) (some 2) (some 64)).length ≤ 63 := by
      have := cutV_length (ns.map V.int) (some 2) (some 64)
      rw [List.length_map] at this
      omega
    have hci := cut_int ns (some 2) (some 64)
    generalize cutV (ns.map V.int) (some 2) (some 64) = cut at lc hci ⊢
    have s3 : Same H2 (upd H2 l (.lst cut)) := Same.new hl
    have nlr : r ≠ l := ne_of_none hr2 hl
    have nlq : q ≠ l := ne_of_none hq2 hl
    refine ⟨l, rfl, ⟨_, SqL.of upd_same⟩, for_list (K := K) (a := l) (xs := cut) (PRows a r q l m wy cut H)
      ⟨[], [], [], none, none, none, none, rfl, s2.trans s3, upd_same, s3 r _ hr2, s3 q _ hq2, .nil, .nil, Nat.le_refl _, List.nodup_nil, fun t ht => by cases ht⟩ (fun i σ H3 _ ⟨_, _, _, _, _, _, _, _, _, hl3, _⟩ => SqL.of hl3) ?_ ?_⟩
    · rintro i x σ H6 hi ⟨rs, ss, T, e5, e6, e7, e8, rfl, s06, hl6, hr6, hq6, hT6, hK6, lT, nd, nb⟩
      have hil : i < 63 := Nat.lt_of_lt_of_le (List.getElem?_eq_some_iff.mp hi).1 lc
      obtain ⟨z, rfl⟩ := hci i x hi
      have hsz := max1 m
      refine ⟨_, rfl, z, _, rfl, by decide, by decide, fun n1 => ⟨_, _, rfl, rfl, ⟨by decide, by decide⟩, _, rfl, _, _, rfl, _, _, rfl, rfl, hsz, ?_⟩⟩
      refine ⟨_, rfl, z, _, rfl, by decide, by decide, fun n2 => ⟨_, _, rfl, rfl, ⟨by decide, by decide⟩, _, rfl, _, _, rfl, _, _, rfl, rfl, hsz, ?_⟩⟩
      refine ⟨_, rfl, z, _, rfl, by decide, by decide, fun n3 => ⟨_, _, rfl, rfl, (by show (0 : Int) < 7; decide), _, _, rfl, rfl, ?_⟩⟩
      dsimp only [gName, List.set_cons_succ, List.set_cons_zero]
      refine ⟨wy, z, _, rfl, rfl, rfl, fun n4 => ?_⟩
      have ha0 := Int.emod_nonneg (n1 / 8) (show (if m > 1 then m else (1 : Int)) ≠ 0 by omega)
      have ha1 := Int.emod_lt_of_pos (n1 / 8) hsz
      have hb0 := Int.emod_nonneg (n2 / 8) (show (if m > 1 then m else (1 : Int)) ≠ 0 by omega)
      have hb1 := Int.emod_lt_of_pos (n2 / 8) hsz
      dsimp only [gName, List.set_cons_succ, List.set_cons_zero]
      generalize hA : n1 / 8 % (if m > 1 then m else (1 : Int)) = a1 at ha0 ha1 ⊢
      generalize hB : n2 / 8 % (if m > 1 then m else (1 : Int)) = b1 at hb0 hb1 ⊢
      have lrs := Paired.length hT6
      have lss := Paired.length hK6
      rw [List.length_map] at lrs lss
      have skip : ∀ H7, Same H6 H7 → PRows a r q l m wy cut H (i + 1) [some (.ref a), some (.int m), some (.int wy), some (.ref r), some (.ref q), some (.int z), some (.int a1), some (.int b1), some (.int n4)] H7 := fun H7 s7 =>
        ⟨rs, ss, T, _, _, _, _, rfl, s06.trans s7, s7 l _ hl6, s7 r _ hr6, s7 q _ hq6, TupsH.same s7 hT6, TupsH.same s7 hK6, Nat.le_succ_of_le lT, nd, nb⟩
      have hx : (rs.map V.ref).length < 1000 := by rw [List.length_map]; omega
      have hy : (ss.map V.ref).length < 1000 := by rw [List.length_map]; omega
      -- the test
      refine ⟨_, rfl, _, rfl, rfl, _, rfl, ?_⟩
      refine ite2 (fun c1 => ?_) (fun _ => iteF (skip H6 (Same.refl _)))
      have nab : a1 ≠ b1 := fun z => by rw [z] at c1; simp at c1
      refine ⟨_, rfl, _, rfl, a1, b1, rfl, _, rfl, _, rfl, a1, b1, rfl, (by show 2 ≤ sizeLine; decide), fun t ht => ?_⟩
      have s8 : Same H6 (upd H6 t (.tup [.int (Mt.lo a1 b1), .int (Mt.hi a1 b1)])) := Same.new ht
      refine ⟨_, rfl, t, [Mt.lo a1 b1, Mt.hi a1 b1], q, ss, _, rfl, upd_same, rfl, SqL.of (s8 q _ hq6), TupsH.same s8 hK6, _, rfl, ?_⟩
      refine ite2 (fun c3 => ⟨r, q, _, _, a1, b1, n4, rfl, rfl, rfl, rfl, rfl, s8 r _ hr6, s8 q _ hq6, nrq, hx, hy, ?_⟩) (fun _ => skip _ s8)
      intro t1 t2 H8 k8 h8r h8q h81 h82
      have kt : ∀ b xs, H6 b = some (.tup xs) → H8 b = some (.tup xs) := fun b xs e => k8 b _ (s8 b _ e) (ne_of e hr6 (by intro z; cases z)) (ne_of e hq6 (by intro z; cases z))
      refine ⟨rs ++ [t2], ss ++ [t1], T ++ [(a1, b1, n4)], _, _, _, _, rfl, fun b o e => ?_, ?_, ?_, ?_, ?_, ?_, ?_, ?_, fun t ht => ?_⟩
      · exact k8 b o (s8 b o (s06 b o e)) (ne_of_none e hr0) (ne_of_none e hq0H)
      · exact k8 l _ (s8 l _ hl6) nlr.symm nlq.symm
      · rw [h8r, List.map_append]; rfl
      · rw [h8q, List.map_append]; rfl
      · rw [List.map_append]
        exact paired_snoc (TupsH.at' hT6 kt) ⟨h82, fun z => by cases z⟩
      · rw [List.map_append]
        exact paired_snoc (TupsH.at' hK6 kt) ⟨h81, fun z => by cases z⟩
      · rw [List.length_append]; exact Nat.succ_le_succ lT
      · rw [List.map_append, List.nodup_append]
        refine ⟨nd, by simp, fun x hx y hy => ?_⟩
        rw [List.map_cons, List.map_nil, List.mem_singleton] at hy
        subst hy
        intro e
        subst e
        have : (T.map Mt.key).any (fun u => decide (u = [Mt.lo a1 b1, Mt.hi a1 b1])) = true := List.any_eq_true.mpr ⟨_, hx, decide_eq_true rfl⟩
        rw [this] at c3
        cases c3
      · rcases List.mem_append.mp ht with ht | ht
        · exact nb t ht
        · rw [List.mem_singleton] at ht
          subst ht
          unfold Mt.bad
          show ¬ (a1 < 0 ∨ m ≤ a1 ∨ b1 < 0 ∨ m ≤ b1 ∨ a1 = b1)
          split at ha1 <;> omega
    · rintro σ H3 ⟨rs, ss, T, e5, e6, e7, e8, rfl, s4, hl3, hr3, hq3, hT, hK, lT, nd, nb⟩
      exact ⟨_, rfl, hQ r rs T H3 s4 hr3 hT (by omega) (Mt.scan_ok (by simpa using nd) nb)⟩
end
end K15

/-! ### k15: some, partners_of, left, partner, worth -/
namespace L2
open PySem PySem.Spec PyProof.Rows
/-- for each point of a pair the other one -/
def prt (U : List Mt.Tri) : List (Key × V) := U.foldl (fun d u => putK (putK d (.inl (Mt.lo u.1 u.2.1)) (.int (Mt.hi u.1 u.2.1))) (.inl (Mt.hi u.1 u.2.1)) (.int (Mt.lo u.1 u.2.1))) []
theorem prt_snoc (U : List Mt.Tri) (u : Mt.Tri) : prt (U ++ [u]) = putK (putK (prt U) (.inl (Mt.lo u.1 u.2.1)) (.int (Mt.hi u.1 u.2.1))) (.inl (Mt.hi u.1 u.2.1)) (.int (Mt.lo u.1 u.2.1)) := by
  unfold prt
  rw [List.foldl_append]
  rfl
theorem putK_len {κ : Type} [DecidableEq κ] (kvs : List (κ × V)) (k : κ) (v : V) : (putK kvs k v).length ≤ kvs.length + 1 := by
  unfold putK
  split
  · rw [List.length_map]; exact Nat.le_succ _
  · rw [List.length_append]; exact Nat.le_refl _
theorem prt_len (U : List Mt.Tri) : (prt U).length ≤ 2 * U.length := by
  have : ∀ (U : List Mt.Tri) (d : List (Key × V)), (U.foldl (fun d u => putK (putK d (.inl (Mt.lo u.1 u.2.1)) (.int (Mt.hi u.1 u.2.1))) (.inl (Mt.hi u.1 u.2.1)) (.int (Mt.lo u.1 u.2.1))) d).length ≤ d.length + 2 * U.length := by
    intro U
    induction U with
    | nil => exact fun d => Nat.le_refl _
    | cons u U ih =>
      intro d
      have h1 := ih (putK (putK d (.inl (Mt.lo u.1 u.2.1)) (.int (Mt.hi u.1 u.2.1))) (.inl (Mt.hi u.1 u.2.1)) (.int (Mt.lo u.1 u.2.1)))
      have h2 := putK_len (putK d (.inl (Mt.lo u.1 u.2.1)) (.int (Mt.hi u.1 u.2.1))) (.inl (Mt.hi u.1 u.2.1)) (.int (Mt.lo u.1 u.2.1))
      have h3 := putK_len d (.inl (Mt.lo u.1 u.2.1)) (.int (Mt.hi u.1 u.2.1))
      rw [List.foldl_cons, List.length_cons]
      omega
  have := this U []
  rw [List.length_nil] at this
  unfold prt
  omega
theorem prt_int (U : List Mt.Tri) : ∀ k v, valV (prt U) k = some v → ∃ z : Int, v = .int z := by
  have : ∀ (U : List Mt.Tri) (d : List (Key × V)), (∀ k v, valV d k = some v → ∃ z : Int, v = .int z) → ∀ k v, valV (U.foldl (fun d u => putK (putK d (.inl (Mt.lo u.1 u.2.1)) (.int (Mt.hi u.1 u.2.1))) (.inl (Mt.hi u.1 u.2.1)) (.int (Mt.lo u.1 u.2.1))) d) k = some v → ∃ z : Int, v = .int z := by
    intro U
    induction U with
    | nil => exact fun d h => h
    | cons u U ih =>
      intro d h
      rw [List.foldl_cons]
      refine ih _ fun k v e => ?_
      rw [valV_put, valV_put] at e
      split at e
      · exact ⟨_, (Option.some.inj e).symm⟩
      · split at e
        · exact ⟨_, (Option.some.inj e).symm⟩
        · exact h k v e
  exact this U [] fun k v e => by rw [valV_nil] at e; cases e
/-- the points that are in no pair, of the first n -/
def lft (U : List Mt.Tri) (n : Nat) : List Int := ((List.range n).map fun (i : Nat) => (i : Int)).filter fun a => !(valV (prt U) (.inl a)).isSome
theorem lft_succ (U : List Mt.Tri) (n : Nat) : lft U (n + 1) = lft U n ++ (if (!(valV (prt U) (.inl (n : Int))).isSome) = true then [(n : Int)] else []) := by
  unfold lft
  rw [List.range_succ, List.map_append, List.filter_append]
  congr 1
  show List.filter _ [(n : Int)] = _
  rw [List.filter_cons]
  rfl
theorem lft_len (U : List Mt.Tri) (n : Nat) : (lft U n).length ≤ n := by
  unfold lft
  refine Nat.le_trans (List.length_filter_le _ _) ?_
  rw [List.length_map, List.length_range]
  exact Nat.le_refl _
theorem rows_in {T : List Mt.Tri} : ∀ {ts : List (List Int)}, (∀ t ∈ ts, t ∈ T.map Mt.row) → ∃ U : List Mt.Tri, ts = U.map Mt.row ∧ ∀ u ∈ U, u ∈ T
  | [], _ => ⟨[], rfl, fun u hu => by cases hu⟩
  | t :: ts, h => by
    obtain ⟨u, hu, e⟩ := List.mem_map.mp (h t (.head _))
    obtain ⟨U, e2, h2⟩ := rows_in (ts := ts) fun x hx => h x (.tail _ hx)
    refine ⟨u :: U, by rw [List.map_cons, e, e2], fun x hx => ?_⟩
    rcases List.mem_cons.mp hx with rfl | hx
    · exact hu
    · exact h2 x hx
end L2
namespace K15
open PySem L2 PyProof.Rows
section
variable {P : Program} {w : World} {K : PySem.W.Frag} {mg : Str → Option Value} {base : Heap}
/-! some -/
def spSome (K : PySem.W.Frag) : Sp := fun vs H Q _ => ∃ (p : Addr) (rs : List Addr) (T : List Mt.Tri) (b : Int), vs = [.ref p, .int b] ∧ RowsAt K H p rs T ∧ T.length ≤ 63 ∧
  ∀ (l : Addr) (qs : List Addr) (U : List Mt.Tri) (H' : Hp), Same H H' → H' l = some (.lst (qs.map V.ref)) → TupsH H' qs (U.map Mt.row) → (∀ u ∈ U, u ∈ T) → U.length ≤ 63 → Q (.ref l) H'
abbrev nmS : List Str := ["_law_rows_here", "_law_bound", "_law_found", "_law_used", "_law_a", "_law_b", "_law_heavy"]
theorem scSome : FnScope nmS ["_law_rows_here", "_law_bound"] (defScope sSome) := ⟨rfl, rfl, rfl, by decide +kernel, rfl, by decide +kernel, by decide +kernel⟩
/-- a pair is put behind, and both its points -/
def tPut : TS := fun D σ H => ∃ (r q : Addr) (xs ys : List V) (a b n : Int), σ[2]? = some (some (.ref r)) ∧ σ[3]? = some (some (.ref q)) ∧ σ[4]? = some (some (.int a)) ∧ σ[5]? = some (some (.int b)) ∧ σ[6]? = some (some (.int n)) ∧
  H r = some (.lst xs) ∧ H q = some (.lst ys) ∧ r ≠ q ∧ xs.length < 500 ∧ ys.length < 500 ∧ ∀ (t : Addr) (H' : Hp), (∀ c o, H c = some o → c ≠ r → c ≠ q → H' c = some o) → H' r = some (.lst (xs ++ [.ref t])) → H' q = some (.lst (ys ++ [.int a] ++ [.int b])) →
    H' t = some (.tup [.int (Mt.lo a b), .int (Mt.hi a b), .int n]) → D.nx σ H'
theorem all_flat (us : List Int) : (us.map V.int).all flatV = true := by
  rw [List.all_map]
  exact List.all_eq_true.mpr fun _ _ => rfl
theorem ok_some {f : Addr} {fd : FuncData} (F : Fun K "_law_some" "_law_some" sSome f fd) (gmin : mg "min" = none) (gmax : mg "max" = none) (glen : mg "len" = none) (gsrt : mg "sorted" = none) : FnOk P w K mg base CX0 1 f fd ["_law_rows_here", "_law_bound"] (spSome K) := by
  refine F.ok scSome (fun vs H Q E h => ?_) (fun cdv A outer s H vs Q E hr h => ?_)
  · obtain ⟨p, rs, T, b, rfl, _⟩ := h
    rfl
  · obtain ⟨p, rs, T, bd, rfl, R, lT, hQ⟩ := h
    refine ⟨_, pss_cons (ps_set (i := 2) scSome.nd rfl (Or.inl rfl) (pe_lst pa_nil))
      (pss_cons (ps_set (i := 3) scSome.nd rfl (Or.inl rfl) (pe_lst pa_nil))
      (pss_cons (ps_for PassesOwn.never rfl (pi_list (pv 0)) (pg_tup rfl (pgs_cons (pg_name (i := 4) scSome.nd rfl (Or.inl rfl)) (pgs_cons (pg_name (i := 5) scSome.nd rfl (Or.inl rfl)) (pgs_cons (pg_name (i := 6) scSome.nd rfl (Or.inl rfl)) pgs_nil))))
        (pss_one (ps_if (pw_and (pt_cmpR op_notIn_seq (pv 4) (pv 3) (by with_unfolding_all rfl)) (pw_and (pt_cmpR op_notIn_seq (pv 5) (pv 3) (by with_unfolding_all rfl)) (pw_and1 (pt_cmpR op_lt (pe_callB call_len_seq (by rfl) glen PySem.boot_len (pa_cons (pv 2) pa_nil)) (pv 1) (nomark _))))).pt
          (PSs.imp (t' := tPut) (pss_cons (ps_expr (pe_bm PySem.F.plainAttrs_list PySem.F.slot_list_append PySem.F.type_list_append mt_append (pv 2) (pa_cons (pe_tup (pa_cons (pe_callB (call_min2 rfl) (by rfl) gmin boot_min (pa_cons (pv 4) (pa_cons (pv 5) pa_nil)))
              (pa_cons (pe_callB (call_max2 rfl) (by rfl) gmax boot_max (pa_cons (pv 4) (pa_cons (pv 5) pa_nil))) (pa_cons (pv 6) pa_nil)))) pa_nil)))
            (pss_cons (ps_expr (pe_bm PySem.F.plainAttrs_list PySem.F.slot_list_append PySem.F.type_list_append mt_append (pv 3) (pa_cons (pv 4) pa_nil)))
            (pss_one (ps_expr (pe_bm PySem.F.plainAttrs_list PySem.F.slot_list_append PySem.F.type_list_append mt_append (pv 3) (pa_cons (pv 5) pa_nil)))))) ?i2) pss_nil)))
      (pss_one (ps_ret (pe_callB call_sortedLB (by rfl) gsrt boot_sorted (pa_cons (pv 2) pa_nil)))))), ?_⟩
    case i2 =>
      rintro D σ H ⟨r, q, xs, ys, a, b, n, e2, e3, e4, e5, e6, hr, hq, nrq, lx, ly, h⟩
      refine ⟨_, e2, .inl ⟨rfl, _, SqL.of hr⟩, _, e4, _, e5, a, b, rfl, _, e4, _, e5, a, b, rfl, _, e6, (by show 3 ≤ sizeLine; decide), fun t ht => ?_⟩
      have n1 : r ≠ t := ne_of_none hr ht
      have n2 : q ≠ t := ne_of_none hq ht
      refine ⟨r, xs, _, rfl, rfl, (by rw [upd_ne n1]; exact hr), small1000 (by omega), ?_⟩
      have hq1 : upd (upd H t (.tup [.int (Mt.lo a b), .int (Mt.hi a b), .int n])) r (.lst (xs ++ [.ref t])) q = some (.lst ys) := by rw [upd_ne nrq.symm, upd_ne n2]; exact hq
      refine ⟨_, e3, .inl ⟨rfl, _, SqL.of hq1⟩, _, e4, q, ys, _, rfl, rfl, hq1, small1000 (by omega), ?_⟩
      refine ⟨_, e3, .inl ⟨rfl, _, SqL.of upd_same⟩, _, e5, q, _, _, rfl, rfl, upd_same, small1000 (by rw [List.length_append]; show ys.length + 1 ≤ 1000; omega), ?_⟩
      rw [upd_upd]
      refine h t _ (fun c o e m1 m2 => ?_) ?_ upd_same ?_
      · rw [upd_ne m2, upd_ne m1, upd_ne (ne_of_none e ht)]; exact e
      · rw [upd_ne nrq, upd_same]
      · rw [upd_ne n2.symm, upd_ne n1.symm, upd_same]; rfl
    refine ⟨Nat.zero_le _, fun r hr0 => ⟨Nat.zero_le _, fun q hq0 => ?_⟩⟩
    have s1 : Same H (upd H r (.lst [])) := Same.new hr0
    have nrq : r ≠ q := ne_of_none upd_same hq0
    have s2 := s1.trans (Same.new (o := .lst []) hq0)
    have hq0H : H q = none := s1.free hq0
    have hr2 : upd (upd H r (.lst [])) q (.lst []) r = some (.lst []) := by rw [upd_ne nrq]; exact upd_same
    have hq2 : upd (upd H r (.lst [])) q (.lst []) q = some (.lst []) := upd_same
    generalize upd (upd H r (.lst [])) q (.lst []) = H2 at s2 hr2 hq2 ⊢
    refine ⟨_, rfl, p, rfl, ⟨_, (R.same s2).ls⟩, for_list (K := K) (a := p) (xs := rs.map V.ref)
      (fun i σ H3 => ∃ (fs : List Addr) (ts : List (List Int)) (us : List Int) (e4 e5 e6 : Option V), σ = [some (.ref p), some (.int bd), some (.ref r), some (.ref q), e4, e5, e6] ∧ Same H H3 ∧ H3 r = some (.lst (fs.map V.ref)) ∧ H3 q = some (.lst (us.map V.int)) ∧ TupsH H3 fs ts ∧ (∀ t ∈ ts, t ∈ T.map Mt.row) ∧ ts.length ≤ i ∧ us.length ≤ 2 * i ∧ i ≤ T.length)
      ⟨[], [], [], none, none, none, rfl, s2, hr2, hq2, .nil, fun t ht => (by cases ht), Nat.le_refl _, Nat.le_refl _, Nat.zero_le _⟩ (fun i σ H3 _ ⟨_, _, _, _, _, _, _, s3, _⟩ => (R.same s3).ls) ?_ ?_⟩
    · rintro i x σ H3 hi ⟨fs, ts, us, e4, e5, e6, rfl, s3, hr3, hq3, hT3, hk, lt, lu, li⟩
      obtain ⟨z, t, rfl, et, hz⟩ := (R.same s3).at_ hi
      have hil : i < T.length := (List.getElem?_eq_some_iff.mp et).1
      refine ⟨z, _, rfl, SqT.of hz, rfl, _, _, rfl, _, _, rfl, _, _, rfl, rfl, ?_⟩
      have lfs := Paired.length hT3
      refine ⟨_, rfl, _, rfl, q, _, rfl, .inl (SqL.of hq3), rfl, all_flat us, _, rfl, ?_⟩
      refine ite2 (fun _ => ?_) (fun _ => iteF ⟨fs, ts, us, _, _, _, rfl, s3, hr3, hq3, hT3, hk, by omega, by omega, hil⟩)
      refine ⟨_, rfl, _, rfl, q, _, rfl, .inl (SqL.of hq3), rfl, all_flat us, _, rfl, ?_⟩
      refine ite2 (fun _ => ?_) (fun _ => iteF ⟨fs, ts, us, _, _, _, rfl, s3, hr3, hq3, hT3, hk, by omega, by omega, hil⟩)
      refine ⟨_, rfl, r, _, rfl, .inl (SqL.of hr3), _, rfl, _, _, rfl, rfl, _, rfl, ?_⟩
      refine ite2 (fun _ => ?_) (fun _ => ⟨fs, ts, us, _, _, _, rfl, s3, hr3, hq3, hT3, hk, by omega, by omega, hil⟩)
      refine ⟨r, q, _, _, t.1, t.2.1, t.2.2, rfl, rfl, rfl, rfl, rfl, hr3, hq3, nrq, by rw [List.length_map]; omega, by rw [List.length_map]; omega, fun y H4 k4 hr4 hq4 hy => ?_⟩
      refine ⟨fs ++ [y], ts ++ [Mt.row t], us ++ [t.1] ++ [t.2.1], _, _, _, rfl, fun b o e => ?_, ?_, ?_, ?_, fun u hu => ?_, ?_, ?_, hil⟩
      · exact k4 b o (s3 b o e) (ne_of_none e hr0) (ne_of_none e hq0H)
      · rw [hr4, List.map_append]; rfl
      · rw [hq4, List.map_append, List.map_append]; rfl
      · refine paired_snoc (TupsH.at' hT3 fun b xs e => k4 b _ e (ne_of e hr3 (by intro z; cases z)) (ne_of e hq3 (by intro z; cases z))) ⟨hy, fun z => by cases z⟩
      · rcases List.mem_append.mp hu with hu | hu
        · exact hk u hu
        · rw [List.mem_singleton] at hu
          subst hu
          exact List.mem_map.mpr ⟨t, List.mem_of_getElem? et, rfl⟩
      · rw [List.length_append]; exact Nat.succ_le_succ lt
      · rw [List.length_append, List.length_append]; show us.length + 1 + 1 ≤ _; omega
    · rintro σ H3 ⟨fs, ts, us, e4, e5, e6, rfl, s3, hr3, hq3, hT3, hk, lt, lu, li⟩
      have lfs := Paired.length hT3
      refine ⟨_, rfl, r, fs, ts, rfl, SqL.of hr3, by omega, hT3, fun qs ts' l hS hl => ?_⟩
      obtain ⟨hqs, hperm, _⟩ := hT3.sorted hS
      obtain ⟨U, rfl, hU⟩ := rows_in fun t ht => hk t (hperm.mem_iff.mp ht)
      have lU := hperm.length_eq
      rw [List.length_map] at lU
      exact hQ l qs U _ (s3.trans (Same.new hl)) upd_same (TupsH.same (Same.new hl) hqs) hU (by omega)
/-! partners_of -/
def spPart : Sp := fun vs H Q _ => ∃ (q : Addr) (qs : List Addr) (U : List Mt.Tri), vs = [.ref q] ∧ H q = some (.lst (qs.map V.ref)) ∧ TupsH H qs (U.map Mt.key) ∧ U.length ≤ 63 ∧ ∀ d H', H d = none → Same H H' → H' d = some (.dK (prt U)) → Q (.ref d) H'
theorem scPart : FnScope ["pairs", "partners", "a", "b"] ["pairs"] (defScope sPart) := ⟨rfl, rfl, rfl, by decide +kernel, rfl, by decide +kernel, by decide +kernel⟩
theorem ok_part {f : Addr} {fd : FuncData} (F : Fun K "partners_of" "partners_of" sPart f fd) : FnOk P w K mg base CX0 1 f fd ["pairs"] spPart := by
  refine F.ok scPart (fun vs H Q E h => ?_) (fun cdv A outer s H vs Q E hr h => ?_)
  · obtain ⟨q, qs, U, rfl, _⟩ := h
    rfl
  · obtain ⟨q, qs, U, rfl, hq, hT, lU, hQ⟩ := h
    have hu := hu_of hr
    have lqs := Paired.length hT
    rw [List.length_map] at lqs
    refine ⟨_, pss_cons (ps_set (i := 1) scPart.nd rfl (Or.inl rfl) pe_dnewK)
      (pss_cons (ps_for PassesOwn.never rfl (pi_list (pv 0)) (pg_tup rfl (pgs_cons (pg_name (i := 2) scPart.nd rfl (Or.inl rfl)) (pgs_cons (pg_name (i := 3) scPart.nd rfl (Or.inl rfl)) pgs_nil)))
        (pss_cons (ps_dput hu (pv 1) (pv 2) (pv 3) rfl) (pss_one (ps_dput hu (pv 1) (pv 3) (pv 2) rfl))))
      (pss_one (ps_ret (pv 1)))), ?_⟩
    intro d hd
    have s0 : Same H (upd H d (.dK [])) := Same.new hd
    refine ⟨_, rfl, q, rfl, ⟨_, SqL.of (s0 q _ hq)⟩, for_list (K := K) (a := q) (xs := qs.map V.ref)
      (fun i σ H3 => ∃ (e2 e3 : Option V), σ = [some (.ref q), some (.ref d), e2, e3] ∧ Same H H3 ∧ H3 d = some (.dK (prt (U.take i))))
      ⟨none, none, rfl, s0, upd_same⟩ (fun i σ H3 _ ⟨_, _, _, s3, _⟩ => SqL.of (s3 q _ hq)) ?_ ?_⟩
    · rintro i y σ H3 hi ⟨e2, e3, rfl, s3, hd3⟩
      obtain ⟨r, t, rfl, et, hr3⟩ := tup_at (TupsH.same s3 hT) hi
      rw [List.getElem?_map] at et
      obtain ⟨u, eu, rfl⟩ : ∃ u, U[i]? = some u ∧ Mt.key u = t := by
        cases z : U[i]? with
        | none => rw [z] at et; cases et
        | some u => rw [z] at et; exact ⟨u, rfl, Option.some.inj et⟩
      have hil : i < U.length := (List.getElem?_eq_some_iff.mp eu).1
      refine ⟨r, _, rfl, SqT.of hr3, rfl, _, _, rfl, _, _, rfl, rfl, ?_⟩
      have lp := prt_len (U.take i)
      rw [List.length_take] at lp
      have lp2 := putK_len (prt (U.take i)) (.inl (Mt.lo u.1 u.2.1)) (.int (Mt.hi u.1 u.2.1))
      refine ⟨_, rfl, _, rfl, _, rfl, d, _, rfl, DPut.k (k := .inl (Mt.lo u.1 u.2.1)) hd3 (small1000 (by omega)), ?_⟩
      refine ⟨_, rfl, _, rfl, _, rfl, d, _, rfl, DPut.k (k := .inl (Mt.hi u.1 u.2.1)) upd_same (small1000 (by omega)), ?_⟩
      rw [upd_upd]
      refine ⟨_, _, rfl, fun c o e => ?_, ?_⟩
      · rw [upd_ne (ne_of_none e hd)]; exact s3 c o e
      · rw [upd_same, List.take_succ, eu]
        exact congrArg some (congrArg HO.dK (prt_snoc _ u).symm)
    · rintro σ H3 ⟨e2, e3, rfl, s3, hd3⟩
      rw [List.length_map, lqs, List.take_length] at hd3
      exact ⟨_, rfl, hQ d H3 hd s3 hd3⟩
/-! partner -/
def spPner : Sp := fun vs H Q _ => ∃ (q : Addr) (qs : List Addr) (U : List Mt.Tri) (a : Int), vs = [.ref q, .int a] ∧ H q = some (.lst (qs.map V.ref)) ∧ TupsH H qs (U.map Mt.key) ∧ U.length ≤ 63 ∧ ∀ H', Same H H' → Q ((valV (prt U) (.inl a)).getD .non) H'
theorem scPner : FnScope ["pairs", "a"] ["pairs", "a"] (defScope sPner) := ⟨rfl, rfl, rfl, by decide +kernel, rfl, by decide +kernel, by decide +kernel⟩
theorem ok_pner {f fP : Addr} {fd fdP : FuncData} (F : Fun K "partner" "partner" sPner f fd)
    (GP : FnOk P w K mg base CX0 1 fP fdP ["pairs"] spPart) (mP : mg "partners_of" = some (.ref fP)) (kP : PySem.W.keepIn K (.ref fP) = true) (bP : Binds K fdP ["pairs"] []) : FnOk P w K mg base CX0 2 f fd ["pairs", "a"] spPner := by
  refine F.ok scPner (fun vs H Q E h => ?_) (fun cdv A outer s H vs Q E hr h => ?_)
  · obtain ⟨q, qs, U, a, rfl, _⟩ := h
    rfl
  · obtain ⟨q, qs, U, a, rfl, hq, hT, lU, hQ⟩ := h
    have hu := hu_of hr
    refine ⟨_, pss_one (ps_ret (pe_dget1 hu (pe_call GP hr rfl mP kP bP .nil pass0 (pa_cons (pv 0) pa_nil)) (pv 1) ⟨rfl, rfl, rfl, rfl⟩)), ?_⟩
    refine ⟨_, rfl, q, qs, U, rfl, hq, hT, lU, fun d H1 hd s1 hd1 => ⟨d, rfl, .inl ⟨_, Rd.of hd1⟩, _, rfl, _, DGet.k (k := .inl a) hd1, hQ _ s1⟩⟩
/-! left -/
def spLeft (C : Addr) : Sp := fun vs H Q _ => ∃ (x q : Addr) (m : Int) (T : List Mt.Tri) (ks : List (List Int)) (qs : List Addr) (U : List Mt.Tri), vs = [.ref x, .ref q] ∧ WebAt C H x m T ks ∧ H q = some (.lst (qs.map V.ref)) ∧ TupsH H qs (U.map Mt.key) ∧ U.length ≤ 63 ∧ ∀ l H', H l = none → Same H H' → H' l = some (.lst ((lft U m.toNat).map V.int)) → Q (.ref l) H'
abbrev nmF : List Str := ["web", "pairs", "partners"]
theorem scLeft : FnScope nmF ["web", "pairs"] (defScope sLeft) := ⟨rfl, rfl, rfl, by decide +kernel, rfl, by decide +kernel, by decide +kernel⟩
def compF : Scope := { kind := .function, names := [(Str.ofString ".0", .local), (Str.ofString "point", .local), (Str.ofString "partners", .free)], isGenerator := false, isCoroutine := false, more := [] }
theorem nd_ownF : ([".0", "point", "partners"] : List Str).Nodup := by decide +kernel
abbrev XF (P : Program) (w : World) (K : PySem.W.Frag) (mg : Str → Option Value) (base : Heap) (f : Addr) (cdv : Value) (A : Around) (outer : List Env) (s : Shared) (H : Hp) (E : XK) : Cx := (cxOf CX0 P w K mg base nmF "left" (defScope sLeft) f cdv A outer s H E).nox
theorem capsF {f : Addr} {cdv : Value} {A : Around} {outer : List Env} {s : Shared} {H : Hp} {E : XK} : Caps (XF P w K mg base f cdv A outer s H E) compF [(Str.ofString "partners", s.heap.objs.size + 1)] [".0", "point"] ["partners"] [2] := by
  have e1 : (XF P w K mg base f cdv A outer s H E).env.cells = [(Str.ofString "partners", s.heap.objs.size + 1)] := by rfl
  have e2 : (relabel compF (XF P w K mg base f cdv A outer s H E).env).names = [(Str.ofString ".0", .local), (Str.ofString "point", .local), (Str.ofString "partners", .cell)] := by rfl
  refine ⟨rfl, fun x c h => by rw [e1]; exact h, rfl, by decide +kernel, by decide +kernel, fun x hx => ?_, rfl, fun i x e => ?_⟩
  · rw [e2] at hx
    have hx : x = Str.ofString "partners" := by
      rcases hx with hx | hx
      all_goals
        have := PySem.mem_of_lookup hx
        simpa using this
    subst hx
    exact ⟨_, rfl⟩
  · match i, e with
    | 0, e =>
      cases (Option.some.inj e)
      exact ⟨2, rfl, rfl, rfl, rfl, by rw [e2]; rfl⟩
    | n + 1, e => cases e
theorem ok_left {f fP fS C : Addr} {fd fdP fdS : FuncData} (F : Fun K "left" "left" sLeft f fd) (T0 : TxtW K mg C) (grange : mg "range" = none)
    (GP : FnOk P w K mg base CX0 1 fP fdP ["pairs"] spPart) (mP : mg "partners_of" = some (.ref fP)) (kP : PySem.W.keepIn K (.ref fP) = true) (bP : Binds K fdP ["pairs"] [])
    (mS : Meth K C "size" fS) (GS : FnOk P w K mg base CX0 1 fS fdS ["self"] (spMSize C)) (bS : Binds K fdS ["self"] []) : FnOk P w K mg base CX0 2 f fd ["web", "pairs"] (spLeft C) := by
  refine F.ok scLeft (fun vs H Q E h => ?_) (fun cdv A outer s H vs Q E hr h => ?_)
  · obtain ⟨x, q, m, T, ks, qs, U, rfl, _⟩ := h
    rfl
  · obtain ⟨x, q, m, T, ks, qs, U, rfl, W, hq, hT, lU, hQ⟩ := h
    have hu := hu_of hr
    have m0 := W.m0
    have m1 := W.m1
    refine ⟨_, pss_cons (ps_set (i := 2) scLeft.nd rfl (Or.inr rfl) (pe_call GP hr rfl mP kP bP .nil pass0 (pa_cons (pv 1) pa_nil)))
      (pss_one (ps_ret (pe_comp (g := gName 1) (own := [".0", "point"]) (caps := ["partners"]) (js := [2]) rfl capsF (pi_range1 rfl grange (pa_cons (pe_meth0 (pv 0) T0.cl mS GS hr bS .nil pass0) pa_nil))
        (fun pins C s H1 fp => pg_name (i := 1) nd_ownF rfl (Or.inl rfl) (Or.inr rfl))
        (fun pins C s H1 fp => pts_one (pt_cmp (pc_dnotin hu (pv 1) (pv 2)) (by with_unfolding_all rfl)))
        (fun pins C s H1 fp => pv 1)))), ?_⟩
    refine ⟨_, rfl, q, qs, U, rfl, hq, hT, lU, fun d H1 hd s1 hd1 => ?_⟩
    obtain ⟨dx, _, _, _, fs, _, w1, _, _, _, _, w6, _⟩ := (W.same s1).ex
    refine ⟨_, rfl, x, dx, fs, rfl, w1, w6.1, x, m, T, ks, rfl, W.same s1, m, rfl, by omega, by omega, fun D hD => ?_⟩
    refine turns_range (n := m.toNat) (fun i ys σ H2 => ∃ (e0 e1 : Option V), ys = (lft U i).map V.int ∧ i ≤ m.toNat ∧ σ = [e0, e1, some (.ref d)] ∧ Same H1 H2 ∧ H2 D = some (.lst ys)) ⟨none, none, rfl, Nat.zero_le _, rfl, Same.new hD, upd_same⟩ ?_ ?_ ?_
    · rintro i ys σ H2 ⟨e0, e1, rfl, li, rfl, s2, h2⟩
      refine ⟨h2, small1000 ?_⟩
      have := lft_len U i
      rw [List.length_map]
      omega
    · rintro i ys σ H2 hi ⟨e0, e1, rfl, li, rfl, s2, h2⟩
      unfold gName
      dsimp only
      refine ⟨_, rfl, _, rfl, d, _, rfl, DGet.k (k := .inl (0 + (i : Int))) (s2 d _ hd1), _, rfl, ?_⟩
      have es := lft_succ U i
      refine ite2 (fun c => ?_) (fun c => ?_)
      · rw [Int.zero_add] at c
        rw [if_pos c] at es
        refine ⟨_, rfl, h2, Nxt.mk hi ⟨_, _, ?_, hi, rfl, fun b o e => ?_, upd_same⟩⟩
        · rw [es, List.map_append, Int.zero_add]; rfl
        · rw [upd_ne (ne_of_none e hD)]; exact s2 b o e
      · rw [Int.zero_add] at c
        rw [if_neg c, List.append_nil] at es
        exact Nxt.mk hi ⟨_, _, by rw [es], hi, rfl, s2, h2⟩
    · rintro ys σ0 H2 ⟨e0, e1, rfl, li, rfl, s2, h2⟩
      exact hQ D H2 (s1.free hD) (s1.trans s2) h2
/-! worth -/
def spWorth (C : Addr) : Sp := fun vs H Q _ => ∃ (x q : Addr) (m : Int) (T : List Mt.Tri) (ks : List (List Int)) (qs : List Addr) (U : List Mt.Tri), vs = [.ref x, .ref q] ∧ WebAt C H x m T ks ∧ H q = some (.lst (qs.map V.ref)) ∧ TupsH H qs (U.map Mt.key) ∧ (∀ u ∈ U, u ∈ T) ∧ U.length ≤ 63 ∧ ∀ H', Same H H' → Q (.int (U.map fun u => u.2.2).sum) H'
abbrev nmO : List Str := ["web", "pairs"]
theorem scWorth : FnScope nmO ["web", "pairs"] (defScope sWorth) := ⟨rfl, rfl, rfl, by decide +kernel, rfl, by decide +kernel, by decide +kernel⟩
def compO : Scope := { kind := .function, names := [(Str.ofString ".0", .local), (Str.ofString "a", .local), (Str.ofString "b", .local), (Str.ofString "web", .free)], isGenerator := false, isCoroutine := false, more := [] }
theorem nd_ownO : ([".0", "a", "b", "web"] : List Str).Nodup := by decide +kernel
abbrev XO (P : Program) (w : World) (K : PySem.W.Frag) (mg : Str → Option Value) (base : Heap) (f : Addr) (cdv : Value) (A : Around) (outer : List Env) (s : Shared) (H : Hp) (E : XK) : Cx := (cxOf CX0 P w K mg base nmO "worth" (defScope sWorth) f cdv A outer s H E).nox
theorem capsO {f : Addr} {cdv : Value} {A : Around} {outer : List Env} {s : Shared} {H : Hp} {E : XK} : Caps (XO P w K mg base f cdv A outer s H E) compO [(Str.ofString "web", s.heap.objs.size + 1)] [".0", "a", "b"] ["web"] [0] := by
  have e1 : (XO P w K mg base f cdv A outer s H E).env.cells = [(Str.ofString "web", s.heap.objs.size + 1)] := by rfl
  have e2 : (relabel compO (XO P w K mg base f cdv A outer s H E).env).names = [(Str.ofString ".0", .local), (Str.ofString "a", .local), (Str.ofString "b", .local), (Str.ofString "web", .cell)] := by rfl
  refine ⟨rfl, fun x c h => by rw [e1]; exact h, rfl, by decide +kernel, by decide +kernel, fun x hx => ?_, rfl, fun i x e => ?_⟩
  · rw [e2] at hx
    have hx : x = Str.ofString "web" := by
      rcases hx with hx | hx
      all_goals
        have := PySem.mem_of_lookup hx
        simpa using this
    subst hx
    exact ⟨_, rfl⟩
  · match i, e with
    | 0, e =>
      cases (Option.some.inj e)
      exact ⟨0, rfl, rfl, rfl, rfl, by rw [e2]; rfl⟩
    | n + 1, e => cases e
theorem wtV_of {m : Int} {T : List Mt.Tri} (sg : Mt.scan m T [] = .good) {u : Mt.Tri} (hu : u ∈ T) : wtV T (Mt.lo u.1 u.2.1) (Mt.hi u.1 u.2.1) = .int u.2.2 := by
  obtain ⟨nd, nb⟩ := Mt.scan_good sg List.nodup_nil
  rw [List.nil_append] at nd
  have h := Mt.key_range (nb u hu)
  have e : [Mt.lo (Mt.lo u.1 u.2.1) (Mt.hi u.1 u.2.1), Mt.hi (Mt.lo u.1 u.2.1) (Mt.hi u.1 u.2.1)] = Mt.key u := by
    generalize hl : Mt.lo u.1 u.2.1 = a at h
    generalize hh : Mt.hi u.1 u.2.1 = b at h
    unfold Mt.key
    rw [hl, hh]
    unfold Mt.lo Mt.hi
    rw [if_neg (by omega), if_pos (by omega)]
  unfold wtV
  rw [e]
  show (valV (wd T) (kk u)).getD .non = _
  rw [wt_of nd u hu]
  rfl
theorem ok_worth {f fG C : Addr} {fd fdG : FuncData} (F : Fun K "worth" "worth" sWorth f fd) (T0 : TxtW K mg C) (gsum : mg "sum" = none)
    (mG : Meth K C "weight" fG) (GG : FnOk P w K mg base CX0 2 fG fdG ["self", "a", "b"] (spWeight C)) (bG : Binds K fdG ["self", "a", "b"] []) : FnOk P w K mg base CX0 3 f fd ["web", "pairs"] (spWorth C) := by
  refine F.ok scWorth (fun vs H Q E h => ?_) (fun cdv A outer s H vs Q E hr h => ?_)
  · obtain ⟨x, q, m, T, ks, qs, U, rfl, _⟩ := h
    rfl
  · obtain ⟨x, q, m, T, ks, qs, U, rfl, W, hq, hT, hU, lU, hQ⟩ := h
    have lqs := Paired.length hT
    rw [List.length_map] at lqs
    refine ⟨_, pss_one (ps_ret (pe_callB (call_sumI rfl) (by rfl) gsum boot_sum (pa_cons (pe_comp (g := gTup K 2 (gCons (gName 1) (gCons (gName 2) gNil))) (own := [".0", "a", "b"]) (caps := ["web"]) (js := [0]) rfl capsO (pi_list (pv 1))
        (fun pins C s H1 fp => pg_tup (n := 2) rfl (pgs_cons (pg_name (i := 1) nd_ownO rfl (Or.inl rfl) (Or.inr rfl)) (pgs_cons (pg_name (i := 2) nd_ownO rfl (Or.inl rfl) (Or.inr rfl)) pgs_nil)))
        (fun pins C s H1 fp => pts_nil)
        (fun pins C s H1 fp => pe_meth (pv 3) T0.cl mG GG hr bG .nil pass0 (pa_cons (pv 1) (pa_cons (pv 2) pa_nil)))) pa_nil))), ?_⟩
    refine ⟨_, rfl, q, rfl, ⟨_, SqL.of hq⟩, fun D hD => ?_⟩
    refine turns_list (K := K) (a := q) (xs := qs.map V.ref) (fun i ys σ H2 => ∃ (e0 e1 e2 : Option V), ys = ((U.take i).map fun u => u.2.2).map V.int ∧ σ = [e0, e1, e2, some (.ref x)] ∧ Same H H2 ∧ H2 D = some (.lst ys)) ⟨none, none, none, rfl, rfl, Same.new hD, upd_same⟩ ?_ ?_ ?_
    · rintro i ys σ H2 ⟨e0, e1, e2, rfl, rfl, s2, h2⟩
      refine ⟨h2, small1000 ?_, SqL.of (s2 q _ hq)⟩
      rw [List.length_map, List.length_map, List.length_take]
      omega
    · rintro i y ys σ H2 hi ⟨e0, e1, e2, rfl, rfl, s2, h2⟩
      have hil : i < (qs.map V.ref).length := (List.getElem?_eq_some_iff.mp hi).1
      obtain ⟨r, t, rfl, et, hr2⟩ := tup_at (TupsH.same s2 hT) hi
      rw [List.getElem?_map] at et
      obtain ⟨u, eu, rfl⟩ : ∃ u, U[i]? = some u ∧ Mt.key u = t := by
        cases z : U[i]? with
        | none => rw [z] at et; cases et
        | some u => rw [z] at et; exact ⟨u, rfl, Option.some.inj et⟩
      refine ⟨r, _, rfl, SqT.of hr2, rfl, _, _, rfl, _, _, rfl, rfl, ?_⟩
      dsimp only
      refine yes_of ?_
      obtain ⟨dx, _, _, _, fs, _, w1, _, _, _, _, w6, _⟩ := (W.same s2).ex
      refine ⟨_, rfl, x, dx, fs, rfl, w1, w6.2.2.1, _, rfl, _, rfl, x, m, T, ks, _, _, rfl, W.same s2, fun H3 s3 => ?_⟩
      rw [wtV_of W.ok (hU u (List.mem_of_getElem? eu))]
      have h3 := s3 D _ h2
      refine ⟨h3, Nxt.mk hil ⟨_, _, _, ?_, rfl, fun b o e => ?_, upd_same⟩⟩
      · rw [List.take_succ, eu, List.map_append, List.map_append]; rfl
      · rw [upd_ne (ne_of_none e hD)]
        exact s3 b o (s2 b o e)
    · rintro ys σ H2 ⟨e0, e1, e2, rfl, rfl, s2, h2⟩
      rw [List.length_map, lqs, List.take_length] at h2
      exact ⟨D, _, rfl, SqL.of h2, hQ H2 s2⟩
end
end K15

/-! ### k15: told -/
namespace L2
open PySem PySem.Spec PyProof.Rows
theorem paired_take {α β : Type} {F : α → β → Prop} : ∀ (n : Nat) {l : List α} {m : List β}, Paired F l m → Paired F (l.take n) (m.take n)
  | 0, _, _, _ => by rw [List.take_zero, List.take_zero]; exact .nil
  | _ + 1, _, _, .nil => .nil
  | n + 1, _, _, .cons h t => .cons h (paired_take n t)
theorem paired_drop {α β : Type} {F : α → β → Prop} : ∀ (n : Nat) {l : List α} {m : List β}, Paired F l m → Paired F (l.drop n) (m.drop n)
  | 0, _, _, h => h
  | _ + 1, _, _, .nil => .nil
  | n + 1, _, _, .cons _ t => paired_drop n t
theorem cut_tups {H : Hp} {rs : List Addr} {ts : List (List Int)} (lo hi : Option Int) (h : TupsH H rs ts) : TupsH H (cutA rs lo hi) (cutA ts lo hi) := by
  unfold cutA
  rw [Paired.length h]
  exact paired_take _ (paired_drop _ h)
theorem cutA_map {α β : Type} (f : α → β) (xs : List α) (lo hi : Option Int) : cutA (xs.map f) lo hi = (cutA xs lo hi).map f := by
  unfold cutA
  rw [List.length_map, List.map_take, List.map_drop]
theorem all_true (n : Nat) : (List.replicate n true).all id = true := by simp
end L2
namespace K15
open PySem L2 PyProof.Rows
section
variable {P : Program} {w : World} {K : PySem.W.Frag} {mg : Str → Option Value} {base : Heap} {C : Addr}
structure CallsT (P : Program) (w : World) (K : PySem.W.Frag) (mg : Str → Option Value) (base : Heap) (C : Addr) : Prop where
  web : TxtW K mg C
  kit : Kit K mg
  gall : mg "all" = none
  grange : mg "range" = none
  gsum : mg "sum" = none
  who : ∃ f fd, mg "_law_whole" = some (.ref f) ∧ PySem.W.keepIn K (.ref f) = true ∧ FnOk P w K mg base CX0 1 f fd ["_law_found"] spWhole ∧ Binds K fd ["_law_found"] []
  lef : ∃ f fd, mg "left" = some (.ref f) ∧ PySem.W.keepIn K (.ref f) = true ∧ FnOk P w K mg base CX0 2 f fd ["web", "pairs"] (spLeft C) ∧ Binds K fd ["web", "pairs"] []
  pne : ∃ f fd, mg "partner" = some (.ref f) ∧ PySem.W.keepIn K (.ref f) = true ∧ FnOk P w K mg base CX0 2 f fd ["pairs", "a"] spPner ∧ Binds K fd ["pairs", "a"] []
  wor : ∃ f fd, mg "worth" = some (.ref f) ∧ PySem.W.keepIn K (.ref f) = true ∧ FnOk P w K mg base CX0 3 f fd ["web", "pairs"] (spWorth C) ∧ Binds K fd ["web", "pairs"] []
def spTold (C : Addr) : Sp := fun vs H Q _ => ∃ (x p : Addr) (m : Int) (T : List Mt.Tri) (ks : List (List Int)) (rs : List Addr) (U : List Mt.Tri), vs = [.ref x, .int m, .ref p] ∧ WebAt C H x m T ks ∧ H p = some (.lst (rs.map V.ref)) ∧ TupsH H rs (U.map Mt.row) ∧ (∀ u ∈ U, u ∈ T) ∧ U.length ≤ 63 ∧ ∀ H', Same H H' → Q (.bl true) H'
abbrev nmT : List Str := ["_law_web", "_law_many", "_law_some_here", "_law_pairs", "_law_beside", "_law_a", "_law_b", "_law_handed", "_law_found", "_law_other", "_law_total"]
theorem scTold : FnScope nmT ["_law_web", "_law_many", "_law_some_here"] (defScope sTold) := ⟨rfl, rfl, rfl, by decide +kernel, rfl, by decide +kernel, by decide +kernel⟩
abbrev XT (P : Program) (w : World) (K : PySem.W.Frag) (mg : Str → Option Value) (base : Heap) (f : Addr) (cdv : Value) (A : Around) (outer : List Env) (s : Shared) (H : Hp) (E : XK) : Cx := (cxOf CX0 P w K mg base nmT "_law_told" (defScope sTold) f cdv A outer s H E).nox
abbrev toldAt (i : Nat) : Stmt := (defBody sTold).getD i (.Pass ⟨0, 0, 0, 0⟩)
theorem nd_own3 : ([".0", "_law_a", "_law_b", "_law_heavy"] : List Str).Nodup := by decide +kernel
theorem nd_ownW : ([".0", "_law_one"] : List Str).Nodup := by decide +kernel
def compB : Scope := { kind := .function, names := [(Str.ofString ".0", .local), (Str.ofString "_law_a", .local), (Str.ofString "_law_beside", .free)], isGenerator := false, isCoroutine := false, more := [] }
theorem nd_ownB : ([".0", "_law_a", "_law_beside"] : List Str).Nodup := by decide +kernel
section
variable {f : Addr} {cdv : Value} {A : Around} {outer : List Env} {s : Shared} {H : Hp} {E : XK}
theorem capsB : Caps (XT P w K mg base f cdv A outer s H E) compB [(Str.ofString "_law_beside", s.heap.objs.size + 1)] [".0", "_law_a"] ["_law_beside"] [4] := by
  have e1 : (XT P w K mg base f cdv A outer s H E).env.cells = [(Str.ofString "_law_beside", s.heap.objs.size + 1)] := by rfl
  have e2 : (relabel compB (XT P w K mg base f cdv A outer s H E).env).names = [(Str.ofString ".0", .local), (Str.ofString "_law_a", .local), (Str.ofString "_law_beside", .cell)] := by rfl
  refine ⟨rfl, fun x c h => by rw [e1]; exact h, rfl, by decide +kernel, by decide +kernel, fun x hx => ?_, rfl, fun i x e => ?_⟩
  · rw [e2] at hx
    have hx : x = Str.ofString "_law_beside" := by
      rcases hx with hx | hx
      all_goals
        have := PySem.mem_of_lookup hx
        simpa using this
    subst hx
    exact ⟨_, rfl⟩
  · match i, e with
    | 0, e =>
      cases (Option.some.inj e)
      exact ⟨4, rfl, rfl, rfl, rfl, by rw [e2]; rfl⟩
    | n + 1, e => cases e
/-- pairs = [...] -/
def tPr : TS := fun D σ H => ∃ (p : Addr) (rs : List Addr) (U : List Mt.Tri), σ[2]? = some (some (.ref p)) ∧ H p = some (.lst (rs.map V.ref)) ∧ TupsH H rs (U.map Mt.row) ∧ U.length ≤ 63 ∧
  ∀ (l : Addr) (zs : List Addr) (H' : Hp), Same H H' → H' l = some (.lst (zs.map V.ref)) → TupsH H' zs (U.map Mt.key) → D.nx (σ.set 3 (some (.ref l))) H'
theorem row_at {rs : List Addr} {U : List Mt.Tri} {H : Hp} {i : Nat} {x : V} (h : TupsH H rs (U.map Mt.row)) (e : (rs.map V.ref)[i]? = some x) : ∃ r u, x = .ref r ∧ U[i]? = some u ∧ H r = some (.tup [.int (Mt.lo u.1 u.2.1), .int (Mt.hi u.1 u.2.1), .int u.2.2]) := by
  obtain ⟨r, t, rfl, et, hr⟩ := tup_at h e
  rw [List.getElem?_map] at et
  cases z : U[i]? with
  | none => rw [z] at et; cases et
  | some u =>
    rw [z] at et
    cases et
    exact ⟨r, u, rfl, rfl, hr⟩
theorem key_at {rs : List Addr} {U : List Mt.Tri} {H : Hp} {i : Nat} {x : V} (h : TupsH H rs (U.map Mt.key)) (e : (rs.map V.ref)[i]? = some x) : ∃ r u, x = .ref r ∧ U[i]? = some u ∧ H r = some (.tup [.int (Mt.lo u.1 u.2.1), .int (Mt.hi u.1 u.2.1)]) := by
  obtain ⟨r, t, rfl, et, hr⟩ := tup_at h e
  rw [List.getElem?_map] at et
  cases z : U[i]? with
  | none => rw [z] at et; cases et
  | some u =>
    rw [z] at et
    cases et
    exact ⟨r, u, rfl, rfl, hr⟩
theorem ok_t0 : PS (XT P w K mg base f cdv A outer s H E) (toldAt 0) tPr := by
  refine' PS.imp (t' := tPr) (ps_comp (i := 3) (g := gTup K 3 (gCons (gName 1) (gCons (gName 2) (gCons (gName 3) gNil)))) (own := [".0", "_law_a", "_law_b", "_law_heavy"]) (cl := []) (caps := []) (js := []) rfl
          (caps0 rfl rfl (by decide +kernel) (by decide +kernel)) (pi_list (pv 2))
          (fun pins C s H1 fp => pg_tup (n := 3) rfl (pgs_cons (pg_name (i := 1) nd_own3 rfl (Or.inl rfl)) (pgs_cons (pg_name (i := 2) nd_own3 rfl (Or.inl rfl)) (pgs_cons (pg_name (i := 3) nd_own3 rfl (Or.inl rfl)) pgs_nil))))
          (fun pins C s H1 fp => pts_nil)
          (fun pins C s H1 fp => pe_tup (pa_cons (pv 1) (pa_cons (pv 2) pa_nil))) scTold.nd rfl rfl rfl) ?_
  rintro D σ H1 ⟨p, rs, U, e2, hp, hT, lU, k⟩
  have lrs := Paired.length hT
  rw [List.length_map] at lrs
  refine ⟨_, e2, p, rfl, ⟨_, SqL.of hp⟩, fun D2 hD => ?_⟩
  refine turns_list (K := K) (a := p) (xs := rs.map V.ref) (fun i ys σ H2 => ∃ (zs : List Addr) (e0 e1 e2 e3 : Option V), ys = zs.map V.ref ∧ σ = [e0, e1, e2, e3] ∧ Same H1 H2 ∧ H2 D2 = some (.lst ys) ∧ TupsH H2 zs ((U.take i).map Mt.key)) ⟨[], none, none, none, none, rfl, rfl, Same.new hD, upd_same, .nil⟩ ?_ ?_ ?_
  · rintro i ys σ H2 ⟨zs, e0, e1, e2, e3, rfl, rfl, s2, h2', hz⟩
    refine ⟨h2', small1000 ?_, SqL.of (s2 p _ hp)⟩
    have := Paired.length hz
    rw [List.length_map, List.length_take] at this
    rw [List.length_map]
    omega
  · rintro i x ys σ H2 hi ⟨zs, e0, e1, e2, e3, rfl, rfl, s2, h2', hz⟩
    have hil : i < (rs.map V.ref).length := (List.getElem?_eq_some_iff.mp hi).1
    obtain ⟨y, t, rfl, et, hy⟩ := row_at (TupsH.same s2 hT) hi
    refine ⟨y, _, rfl, SqT.of hy, rfl, _, _, rfl, _, _, rfl, _, _, rfl, rfl, ?_⟩
    dsimp only
    refine yes_of ?_
    refine ⟨_, rfl, _, rfl, (by show 2 ≤ sizeLine; decide), fun z hz' => ?_⟩
    have s3 : Same H2 (upd H2 z (.tup ((Mt.key t).map V.int))) := Same.new hz'
    have hz3 : upd H2 z (.tup ((Mt.key t).map V.int)) z = some (.tup ((Mt.key t).map V.int)) := upd_same
    have h3 := s3 D2 _ h2'
    refine ⟨h3, Nxt.mk hil ⟨zs ++ [z], _, _, _, _, by rw [List.map_append]; rfl, rfl, fun b o e => ?_, upd_same, ?_⟩⟩
    · rw [upd_ne (ne_of_none e hD)]
      exact s3 b o (s2 b o e)
    · rw [List.take_succ, et, List.map_append]
      refine paired_snoc (TupsH.at' hz fun b xs e => ?_) ⟨?_, fun z => by cases z⟩
      · show upd (upd H2 z (.tup ((Mt.key t).map V.int))) D2 _ b = _
        rw [upd_ne (ne_of e h2' (by intro z; cases z))]
        exact s3 b _ e
      · show upd (upd H2 z (.tup ((Mt.key t).map V.int))) D2 _ z = _
        rw [upd_ne (ne_of hz3 h3 (by intro z; cases z))]
        exact hz3
  · rintro ys σ0 H2 ⟨zs, e0, e1, e2, e3, rfl, rfl, s2, hD2, hz⟩
    rw [List.length_map, lrs, List.take_length] at hz
    exact k D2 zs H2 s2 hD2 hz
/-- the kind of what was found -/
def tKd : TS := fun D σ H => ∃ (l : Addr) (t : List Int), σ[8]? = some (some (.ref l)) ∧ H l = some (.lst (t.map V.int)) ∧ t.length ≤ 100 ∧ ∀ H', Same H H' → D.nx σ H'
theorem ok_t5 (G : CallsT P w K mg base C) (hr : Room 3 (A.deeper (envOfC "_law_told" (defScope sTold) s.heap.objs.size f cdv))) : PS (XT P w K mg base f cdv A outer s H E) (toldAt 5) tKd := by
  obtain ⟨f1, fd1, m1, k1, G1, b1⟩ := G.who
  have hr1 : Room 1 (XT P w K mg base f cdv A outer s H E).A := hr.mono (by decide)
  refine' PS.imp (t' := tKd) (ps_if (pw_or ?ca (pw_or1 ?cb)).pt (pss_one (ps_ret pe_bl)) pss_nil) ?_
  case ca => exact pt_not (pt_val (pe_callB call_isV (by rfl) G.kit.gis boot_isinstance (pa_cons (pv 8) (pa_cons (pe_bltn (v := .ty "list") (by rfl) G.kit.glist bt_list rfl) pa_nil))))
  case cb =>
    refine' pt_not (pt_val (pe_callB (call_allB rfl) (by rfl) G.gall bt_all (pa_cons ?cc pa_nil)))
    case cc => exact pe_comp (g := gName 1) (own := [".0", "_law_one"]) (cl := []) (caps := []) (js := []) rfl (caps0 rfl rfl (by decide +kernel) (by decide +kernel)) (pi_list (pv 8)) (fun pins C s H1 fp => pg_name (i := 1) nd_ownW rfl (Or.inl rfl)) (fun pins C s H1 fp => pts_nil) (fun pins C s H1 fp => pe_call G1 hr1 rfl m1 k1 b1 .nil pass0 (pa_cons (pv 1) pa_nil))
  rintro D σ H1 ⟨l, t, e8, hl, lt, k⟩
  refine ⟨_, e8, _, "list", _, true, rfl, .lst hl, G.kit.ll, ⟨true, rfl, iteF ?_⟩⟩
  refine ⟨_, e8, l, rfl, ⟨_, SqL.of hl⟩, fun D2 hD => ?_⟩
  refine turns_list (K := K) (a := l) (xs := t.map V.int) (fun i ys σ H5 => ∃ (e0 e1 : Option V), ys = (List.replicate i true).map V.bl ∧ i ≤ t.length ∧ σ = [e0, e1] ∧ Same H1 H5 ∧ H5 D2 = some (.lst ys)) ⟨none, none, rfl, Nat.zero_le _, rfl, Same.new hD, upd_same⟩ ?_ ?_ ?_
  · rintro i ys σ H5 ⟨e0, e1, rfl, li, rfl, s5, hD5⟩
    refine ⟨hD5, small1000 ?_, SqL.of (s5 l _ hl)⟩
    rw [List.length_map, List.length_replicate]; omega
  · rintro j x ys σ H5 hj ⟨e0, e1, rfl, li, rfl, s5, hD5⟩
    obtain ⟨y, rfl, ey⟩ := map_int_at hj
    have hjl : j < (t.map V.int).length := (List.getElem?_eq_some_iff.mp hj).1
    have hjl' : j < t.length := by rw [List.length_map] at hjl; exact hjl
    unfold gName
    dsimp only
    refine yes_of ?_
    refine ⟨_, rfl, y, rfl, hD5, Nxt.mk hjl ⟨_, _, ?_, hjl', rfl, fun b o e => ?_, ?_⟩⟩
    · rw [List.replicate_succ', List.map_append]; rfl
    · rw [upd_ne (ne_of_none e hD)]; exact s5 b o e
    · exact upd_same
  · rintro ys σ0 H5 ⟨e0, e1, rfl, li, rfl, s5, hD5⟩
    refine ⟨D2, _, rfl, SqL.of hD5, ⟨true, by rw [all_true], iteF ?_⟩⟩
    exact k H5 s5
/-- the points left out, by a look here -/
def tLf : TS := fun D σ H => ∃ (l d : Addr) (m : Int) (U : List Mt.Tri), σ[1]? = some (some (.int m)) ∧ σ[4]? = some (some (.ref d)) ∧ σ[8]? = some (some (.ref l)) ∧ 0 ≤ m ∧ m ≤ 24 ∧ H d = some (.dK (prt U)) ∧ H l = some (.lst ((lft U m.toNat).map V.int)) ∧ ∀ H', Same H H' → D.nx σ H'
theorem ok_t6 (G : CallsT P w K mg base C) (hr : Room 3 (A.deeper (envOfC "_law_told" (defScope sTold) s.heap.objs.size f cdv))) : PS (XT P w K mg base f cdv A outer s H E) (toldAt 6) tLf := by
  have hu := hu_of hr
  have hu0 : (XT P w K mg base f cdv A outer s H E).A.units < cLine := Nat.lt_of_succ_lt hu
  refine' PS.imp (t' := tLf) (ps_if (pt_cmpR (op_neI hu0) (pv 8) (pe_comp (g := gName 1) (own := [".0", "_law_a"]) (caps := ["_law_beside"]) (js := [4]) rfl capsB (pi_range1 rfl G.grange (pa_cons (pv 1) pa_nil))
        (fun pins C s H1 fp => pg_name (i := 1) nd_ownB rfl (Or.inl rfl) (Or.inr rfl))
        (fun pins C s H1 fp => pts_one (pt_cmp (pc_dnotin hu (pv 1) (pv 2)) (by with_unfolding_all rfl)))
        (fun pins C s H1 fp => pv 1)) (nomark _)) (pss_one (ps_ret pe_bl)) pss_nil) ?_
  rintro D σ H1 ⟨l, d, m, U, e1, e4, e8, m0, m1, hd, hl, k⟩
  refine ⟨_, e8, _, e1, m, rfl, by omega, by omega, fun D2 hD => ?_⟩
  refine turns_range (n := m.toNat) (fun i ys σ H2 => ∃ (e0 e1 : Option V), ys = (lft U i).map V.int ∧ i ≤ m.toNat ∧ σ = [e0, e1, some (.ref d)] ∧ Same H1 H2 ∧ H2 D2 = some (.lst ys)) ⟨none, none, rfl, Nat.zero_le _, (by unfold σC; simp [e4]), Same.new hD, upd_same⟩ ?_ ?_ ?_
  · rintro i ys σ H2 ⟨e0, e1, rfl, li, rfl, s2, h2⟩
    refine ⟨h2, small1000 ?_⟩
    have := lft_len U i
    rw [List.length_map]
    omega
  · rintro i ys σ H2 hi ⟨e0, e1, rfl, li, rfl, s2, h2⟩
    unfold gName
    dsimp only
    refine ⟨_, rfl, _, rfl, d, _, rfl, DGet.k (k := .inl (0 + (i : Int))) (s2 d _ hd), _, rfl, ?_⟩
    have es := lft_succ U i
    refine ite2 (fun c => ?_) (fun c => ?_)
    · rw [Int.zero_add] at c
      rw [if_pos c] at es
      refine ⟨_, rfl, h2, Nxt.mk hi ⟨_, _, ?_, hi, rfl, fun b o e => ?_, upd_same⟩⟩
      · rw [es, List.map_append, Int.zero_add]; rfl
      · rw [upd_ne (ne_of_none e hD)]; exact s2 b o e
    · rw [Int.zero_add] at c
      rw [if_neg c, List.append_nil] at es
      exact Nxt.mk hi ⟨_, _, by rw [es], hi, rfl, s2, h2⟩
  · rintro ys σ0 H2 ⟨e0, e1', rfl, li, rfl, s2, h2⟩
    refine ⟨l, D2, lft U m.toNat, lft U m.toNat, rfl, rfl, SqL.of (s2 l _ hl), SqL.of h2, _, rfl, ?_⟩
    refine iteNS rfl (k H2 s2)
/-- each point's partner -/
def tPn : TS := fun D σ H => ∃ (v0 v2 v3 v8 : V) (m : Int) (d q : Addr) (qs : List Addr) (U : List Mt.Tri) (e5 e6 e9 e10 : Option V), σ = [some v0, some (.int m), some v2, some v3, some (.ref d), e5, e6, some (.ref q), some v8, e9, e10] ∧ 0 ≤ m ∧ m ≤ 24 ∧ H d = some (.dK (prt U)) ∧ H q = some (.lst (qs.map V.ref)) ∧ TupsH H qs (U.map Mt.key) ∧ U.length ≤ 63 ∧
  ∀ (e5 e9 : Option V) (H' : Hp), Same H H' → D.nx [some v0, some (.int m), some v2, some v3, some (.ref d), e5, e6, some (.ref q), some v8, e9, e10] H'
theorem ok_t8 (G : CallsT P w K mg base C) (hr : Room 3 (A.deeper (envOfC "_law_told" (defScope sTold) s.heap.objs.size f cdv))) : PS (XT P w K mg base f cdv A outer s H E) (toldAt 8) tPn := by
  obtain ⟨f1, fd1, m1, k1, G1, b1⟩ := G.who
  obtain ⟨f2, fd2, m2, k2, G2, b2⟩ := G.pne
  have hu := hu_of hr
  have hr1 : Room 1 (XT P w K mg base f cdv A outer s H E).A := hr.mono (by decide)
  have hr2 : Room 2 (XT P w K mg base f cdv A outer s H E).A := hr.mono (by decide)
  refine' PS.imp (t' := tPn) (ps_for ?qa ?qb ?qc ?qd ?qe) ?_
  case qa => exact PassesOwn.never
  case qb => exact rfl
  case qc => exact pi_range1 rfl G.grange (pa_cons (pv 1) pa_nil)
  case qd => exact pg_name (i := 5) scTold.nd rfl (Or.inl rfl)
  case qe =>
    refine' pss_cons ?e0 (pss_cons ?e1 (pss_one ?e2))
    case e0 => exact ps_set (i := 9) scTold.nd rfl (Or.inl rfl) (pe_call G2 hr2 rfl m2 k2 b2 .nil pass0 (pa_cons (pv 7) (pa_cons (pv 5) pa_nil)))
    case e1 => exact ps_if (pw_and (pt_cmp (pc_din hu (pv 5) (pv 4)) (by with_unfolding_all rfl)) (pw_and1 (pw_or (pt_not (pt_val (pe_call G1 hr1 (by rfl) m1 k1 b1 .nil pass0 (pa_cons (pv 9) pa_nil)))) (pw_or1 (pt_cmpR op_ne (pv 9) (pe_dget hu (pv 4) (pv 5) (fun _ _ => rfl)) (nomark _)))).pt)).pt (pss_one (ps_ret pe_bl)) pss_nil
    case e2 => exact ps_if (pw_and (pt_cmp (pc_dnotin hu (pv 5) (pv 4)) (by with_unfolding_all rfl)) (pw_and1 (pt_cmp (pc_notN (pv 9))))).pt (pss_one (ps_ret pe_bl)) pss_nil
  rintro D σ H1 ⟨v0, v2, v3, v8, m, d, q, qs, U, e5, e6, e9, e10, rfl, m0, m24, hd, hq, hT, lU, k⟩
  refine ⟨_, rfl, m, rfl, by omega, by omega, ?_⟩
  refine for_range (lo := 0) (n := m.toNat) (fun i σ H2 => ∃ e5 e9, σ = [some v0, some (.int m), some v2, some v3, some (.ref d), e5, e6, some (.ref q), some v8, e9, e10] ∧ Same H1 H2) ⟨_, _, rfl, Same.refl _⟩ ?_ ?_
  · rintro i σ H2 hi ⟨e5, e9, rfl, s2⟩
    refine ⟨_, rfl, _, rfl, q, qs, U, _, rfl, s2 q _ hq, TupsH.same s2 hT, lU, fun H3 s3 => ?_⟩
    have s23 := s2.trans s3
    have hd3 := s23 d _ hd
    have dg := DGet.k (k := .inl (0 + (i : Int))) hd3
    dsimp only [gName, List.set_cons_succ, List.set_cons_zero]
    cases ev : valV (prt U) (.inl (0 + (i : Int))) with
    | none =>
      rw [ev] at dg
      refine ⟨_, rfl, _, rfl, d, _, rfl, dg, _, rfl, iteF (iteF ?_)⟩
      refine ⟨_, rfl, _, rfl, d, _, rfl, dg, _, rfl, iteT ?_⟩
      exact ⟨_, rfl, _, rfl, iteF ⟨_, _, rfl, s23⟩⟩
    | some v =>
      obtain ⟨z, rfl⟩ := prt_int U _ _ ev
      rw [ev] at dg
      refine ⟨_, rfl, _, rfl, d, _, rfl, dg, _, rfl, iteT ?_⟩
      refine ⟨_, rfl, z, rfl, true, rfl, iteF ?_⟩
      refine ⟨_, rfl, _, rfl, _, rfl, d, _, rfl, dg, rfl, _, rfl, ?_⟩
      refine iteNS rfl ?_
      exact ⟨_, rfl, _, rfl, d, _, rfl, dg, _, rfl, iteF (iteF ⟨_, _, rfl, s23⟩)⟩
  · rintro σ H2 ⟨e5, e9, rfl, s2⟩
    exact k _ _ H2 s2
/-- the end -/
def tEnd : TS := fun D σ H => ∃ (p l q : Addr) (rs zs : List Addr) (U : List Mt.Tri), σ[2]? = some (some (.ref p)) ∧ σ[3]? = some (some (.ref l)) ∧ σ[7]? = some (some (.ref q)) ∧ σ[10]? = some (some (.int (U.map fun u => u.2.2).sum)) ∧ H p = some (.lst (rs.map V.ref)) ∧ TupsH H rs (U.map Mt.row) ∧ U.length ≤ 63 ∧ H l = some (.lst (zs.map V.ref)) ∧ H q = some (.lst (zs.map V.ref)) ∧ TupsH H zs (U.map Mt.key) ∧ ∀ H', Same H H' → D.rt (.bl true) H'
theorem ok_t10 (G : CallsT P w K mg base C) (hr : Room 3 (A.deeper (envOfC "_law_told" (defScope sTold) s.heap.objs.size f cdv))) : PS (XT P w K mg base f cdv A outer s H E) (toldAt 10) tEnd := by
  obtain ⟨f1, fd1, m1, k1, G1, b1⟩ := G.who
  have hu := hu_of hr
  have hr1 : Room 1 (XT P w K mg base f cdv A outer s H E).A := hr.mono (by decide)
  refine' PS.imp (t' := tEnd) (ps_ret (pe_and (pe_call G1 hr1 rfl m1 k1 b1 .nil pass0 (pa_cons (pv 10) pa_nil)) (pe_and (pe_cmpR op_eq (pv 10) (pe_callB (call_sumI rfl) (by rfl) G.gsum boot_sum (pa_cons (pe_comp (g := gTup K 3 (gCons (gName 1) (gCons (gName 2) (gCons (gName 3) gNil)))) (own := [".0", "_law_a", "_law_b", "_law_heavy"]) (cl := []) (caps := []) (js := []) rfl
          (caps0 rfl rfl (by decide +kernel) (by decide +kernel)) (pi_list (pv 2))
          (fun pins C s H1 fp => pg_tup (n := 3) rfl (pgs_cons (pg_name (i := 1) nd_own3 rfl (Or.inl rfl)) (pgs_cons (pg_name (i := 2) nd_own3 rfl (Or.inl rfl)) (pgs_cons (pg_name (i := 3) nd_own3 rfl (Or.inl rfl)) pgs_nil))))
          (fun pins C s H1 fp => pts_nil)
          (fun pins C s H1 fp => pv 3)) pa_nil)) (nomark _)) (pe_one (pe_cmpR (op_eqLT hu) (pv 7) (pv 3) (nomark _)))))) ?_
  rintro D σ H1 ⟨p, l, q, rs, zs, U, e2, e3, e7, e10, hp, hT, lU, hl, hq, hK, k⟩
  have lrs := Paired.length hT
  rw [List.length_map] at lrs
  refine ⟨_, e10, _, rfl, true, rfl, iteT ?_⟩
  refine ⟨_, e10, _, e2, p, rfl, ⟨_, SqL.of hp⟩, fun D2 hD => ?_⟩
  refine turns_list (K := K) (a := p) (xs := rs.map V.ref) (fun i ys σ H2 => ∃ (e0 e1 e2 e3 : Option V), ys = ((U.take i).map fun u => u.2.2).map V.int ∧ σ = [e0, e1, e2, e3] ∧ Same H1 H2 ∧ H2 D2 = some (.lst ys)) ⟨none, none, none, none, rfl, rfl, Same.new hD, upd_same⟩ ?_ ?_ ?_
  · rintro i ys σ H2 ⟨e0, e1, e2, e3, rfl, rfl, s2, h2⟩
    refine ⟨h2, small1000 ?_, SqL.of (s2 p _ hp)⟩
    rw [List.length_map, List.length_map, List.length_take]
    omega
  · rintro i x ys σ H2 hi ⟨e0, e1, e2, e3, rfl, rfl, s2, h2⟩
    have hil : i < (rs.map V.ref).length := (List.getElem?_eq_some_iff.mp hi).1
    obtain ⟨y, t, rfl, et, hy⟩ := row_at (TupsH.same s2 hT) hi
    refine ⟨y, _, rfl, SqT.of hy, rfl, _, _, rfl, _, _, rfl, _, _, rfl, rfl, ?_⟩
    dsimp only
    refine yes_of ?_
    refine ⟨_, rfl, h2, Nxt.mk hil ⟨_, _, _, _, ?_, rfl, fun b o e => ?_, upd_same⟩⟩
    · rw [List.take_succ, et, List.map_append, List.map_append]; rfl
    · rw [upd_ne (ne_of_none e hD)]; exact s2 b o e
  · rintro ys σ0 H2 ⟨e0, e1, e2', e3', rfl, rfl, s2, h2⟩
    rw [List.length_map, lrs, List.take_length] at h2
    refine ⟨D2, _, rfl, SqL.of h2, rfl, _, rfl, ?_⟩
    rw [decide_eq_true rfl]
    refine iteT ?_
    refine ⟨_, e7, _, e3, q, l, zs, zs, _, _, rfl, rfl, SqL.of (s2 q _ hq), SqL.of (s2 l _ hl), TupsH.same s2 hK, TupsH.same s2 hK, ?_⟩
    rw [decide_eq_true rfl]
    exact k H2 s2
end
end
end K15

/-! ### k15: told, the law -/
namespace K15
open PySem L2 PyProof.Rows
section
variable {P : Program} {w : World} {K : PySem.W.Frag} {mg : Str → Option Value} {base : Heap} {C : Addr}
theorem ok_told {f : Addr} {fd : FuncData} (F : Fun K "_law_told" "_law_told" sTold f fd) (G : CallsT P w K mg base C) : FnOk P w K mg base CX0 4 f fd ["_law_web", "_law_many", "_law_some_here"] (spTold C) := by
  obtain ⟨f1, fd1, m1, k1, G1, b1⟩ := G.lef
  obtain ⟨f2, fd2, m2, k2, G2, b2⟩ := G.wor
  refine F.ok scTold (fun vs H Q E h => ?_) (fun cdv A outer s H vs Q E hr h => ?_)
  · obtain ⟨x, p, m, T, ks, rs, U, rfl, _⟩ := h
    rfl
  · obtain ⟨x, p, m, T, ks, rs, U, rfl, W, hp, hT, hU, lU, hQ⟩ := h
    have hu := hu_of hr
    have hr2 : Room 2 (XT P w K mg base f cdv A outer s H E).A := hr.mono (by decide)
    have hr3 : Room 3 (XT P w K mg base f cdv A outer s H E).A := hr
    have m0 := W.m0
    have m24 := W.m1
    refine' ⟨_, pss_cons ok_t0 (pss_cons ?s1 (pss_cons ?s2 (pss_cons ?s3 (pss_cons ?s4 (pss_cons (ok_t5 G hr) (pss_cons (ok_t6 G hr) (pss_cons ?s7 (pss_cons (ok_t8 G hr) (pss_cons ?s9 (pss_one (ok_t10 G hr))))))))))), ?_⟩
    case s1 => exact ps_set (i := 4) scTold.nd rfl (Or.inr rfl) pe_dnewK
    case s2 => exact ps_for PassesOwn.never rfl (pi_list (pv 3)) (pg_tup rfl (pgs_cons (pg_name (i := 5) scTold.nd rfl (Or.inl rfl)) (pgs_cons (pg_name (i := 6) scTold.nd rfl (Or.inl rfl)) pgs_nil))) (pss_cons (ps_dput hu (pv 4) (pv 5) (pv 6) rfl) (pss_one (ps_dput hu (pv 4) (pv 6) (pv 5) rfl)))
    case s3 => exact ps_set (i := 7) scTold.nd rfl (Or.inl rfl) (pe_callTy call_list_of (by rfl) G.web.lst boot_list (pa_cons (pv 3) pa_nil))
    case s4 => exact ps_set (i := 8) scTold.nd rfl (Or.inl rfl) (pe_call G1 hr2 rfl m1 k1 b1 .nil pass0 (pa_cons (pv 0) (pa_cons (pv 7) pa_nil)))
    case s7 => exact ps_expr (pe_bm PySem.F.plainAttrs_list PySem.F.slot_list_append PySem.F.type_list_append mt_append (pv 8) (pa_cons pe_int pa_nil))
    case s9 => exact ps_set (i := 10) scTold.nd rfl (Or.inl rfl) (pe_call G2 hr3 rfl m2 k2 b2 .nil pass0 (pa_cons (pv 0) (pa_cons (pv 7) pa_nil)))
    -- pairs
    refine ⟨p, rs, U, rfl, hp, hT, lU, fun l zs H1 s1 hl hz => ?_⟩
    have lzs := Paired.length hz
    rw [List.length_map] at lzs
    -- beside = {}
    intro d hd
    have s2 : Same H1 (upd H1 d (.dK [])) := Same.new hd
    have hdH : H d = none := s1.free hd
    refine ⟨_, rfl, l, rfl, ⟨_, SqL.of (s2 l _ hl)⟩, for_list (K := K) (a := l) (xs := zs.map V.ref)
      (fun i σ H3 => ∃ (e5 e6 : Option V), σ = [some (.ref x), some (.int m), some (.ref p), some (.ref l), some (.ref d), e5, e6, none, none, none, none] ∧ Same H1 H3 ∧ H3 d = some (.dK (prt (U.take i))))
      ⟨none, none, rfl, s2, upd_same⟩ (fun i σ H3 _ ⟨_, _, _, s3, _⟩ => SqL.of (s3 l _ hl)) ?_ ?_⟩
    · rintro i y σ H3 hi ⟨e5, e6, rfl, s3, hd3⟩
      obtain ⟨r, u, rfl, eu, hr3'⟩ := key_at (TupsH.same s3 hz) hi
      have hil : i < U.length := (List.getElem?_eq_some_iff.mp eu).1
      refine ⟨r, _, rfl, SqT.of hr3', rfl, _, _, rfl, _, _, rfl, rfl, ?_⟩
      have lp := prt_len (U.take i)
      rw [List.length_take] at lp
      have lp2 := putK_len (prt (U.take i)) (.inl (Mt.lo u.1 u.2.1)) (.int (Mt.hi u.1 u.2.1))
      refine ⟨_, rfl, _, rfl, _, rfl, d, _, rfl, DPut.k (k := .inl (Mt.lo u.1 u.2.1)) hd3 (small1000 (by omega)), ?_⟩
      refine ⟨_, rfl, _, rfl, _, rfl, d, _, rfl, DPut.k (k := .inl (Mt.hi u.1 u.2.1)) upd_same (small1000 (by omega)), ?_⟩
      rw [upd_upd]
      refine ⟨_, _, rfl, fun c o e => ?_, ?_⟩
      · rw [upd_ne (ne_of_none e hd)]; exact s3 c o e
      · rw [upd_same, List.take_succ, eu]
        exact congrArg some (congrArg HO.dK (prt_snoc _ u).symm)
    rintro σ H3 ⟨e5, e6, rfl, s3, hd3⟩
    rw [List.length_map, lzs, List.take_length] at hd3
    have s03 := s1.trans s3
    -- handed
    refine ⟨_, rfl, l, _, rfl, .inl (SqL.of (s3 l _ hl)), fun q hq => ?_⟩
    have s4 : Same H3 (upd H3 q (.lst (zs.map V.ref))) := Same.new hq
    have hq4 : upd H3 q (.lst (zs.map V.ref)) q = some (.lst (zs.map V.ref)) := upd_same
    dsimp only [gName, List.set_cons_succ, List.set_cons_zero]
    generalize upd H3 q (.lst (zs.map V.ref)) = H4 at s4 hq4 ⊢
    have s04 := s03.trans s4
    have s14 := s3.trans s4
    -- found = left(web, handed)
    refine ⟨_, rfl, _, rfl, x, q, m, T, ks, zs, U, rfl, W.same s04, hq4, TupsH.same s14 hz, lU, fun fo H5 hfo s5 hf5 => ?_⟩
    have s05 := s04.trans s5
    have lf := lft_len U m.toNat
    dsimp only [gName, List.set_cons_succ, List.set_cons_zero]
    refine ⟨fo, _, rfl, hf5, by omega, fun H6 s6 => ?_⟩
    have s46 := s5.trans s6
    refine ⟨fo, d, m, U, rfl, rfl, rfl, m0, m24, (s4.trans s46) d _ hd3, s6 fo _ hf5, fun H7 s7 => ?_⟩
    have s47 := s46.trans s7
    have hf7 := (s6.trans s7) fo _ hf5
    -- found.append(0)
    refine ⟨_, rfl, .inl ⟨rfl, _, SqL.of hf7⟩, fo, _, _, rfl, rfl, hf7, small1000 (by rw [List.length_map]; omega), ?_⟩
    have s48 : Same H4 (upd H7 fo (.lst ((lft U m.toNat).map V.int ++ [.int 0]))) := fun b o e => by
      rw [upd_ne (ne_of_none e hfo)]
      exact s47 b o e
    show tSeq _ _ _ _ (upd H7 fo (.lst ((lft U m.toNat).map V.int ++ [.int 0])))
    generalize upd H7 fo (.lst ((lft U m.toNat).map V.int ++ [.int 0])) = H8 at s48 ⊢
    have s18 := s14.trans s48
    have s08 := s04.trans s48
    refine ⟨_, _, _, _, m, d, q, zs, U, _, _, _, _, rfl, m0, m24, (s4.trans s48) d _ hd3, s48 q _ hq4, TupsH.same s18 hz, lU, fun e5' e9' H9 s9 => ?_⟩
    have s09 := s08.trans s9
    have s19 := s18.trans s9
    -- total = worth(web, handed)
    refine ⟨_, rfl, _, rfl, x, q, m, T, ks, zs, U, rfl, W.same s09, s9 q _ (s48 q _ hq4), TupsH.same s19 hz, hU, lU, fun H10 s10 => ?_⟩
    have s010 := s09.trans s10
    have s110 := s19.trans s10
    dsimp only [gName, List.set_cons_succ, List.set_cons_zero]
    exact ⟨p, l, q, rs, zs, U, rfl, rfl, rfl, rfl, s010 p _ hp, TupsH.same s010 hT, lU, s110 l _ hl, (s48.trans (s9.trans s10)) q _ hq4, TupsH.same s110 hz, fun H11 s11 => hQ H11 (s010.trans s11)⟩
structure CallsL (P : Program) (w : World) (K : PySem.W.Frag) (mg : Str → Option Value) (base : Heap) (C CT CB C2 : Addr) : Prop where
  web : TxtW K mg C
  ini : ∃ fI fdI, Mk K C fI ∧ FnOk P w K mg base (CXx P w) 3 fI fdI ["self", "many", "ties"] (spInit C CT CB C2 K) ∧ Binds K fdI ["self", "many", "ties"] []
  cel : ∃ f fd, mg "_law_cell_at" = some (.ref f) ∧ PySem.W.keepIn K (.ref f) = true ∧ FnOk P w K mg base CX0 1 f fd ["_law_script", "_law_k"] (spCell K) ∧ Binds K fd ["_law_script", "_law_k"] []
  row : ∃ f fd, mg "_law_rows" = some (.ref f) ∧ PySem.W.keepIn K (.ref f) = true ∧ FnOk P w K mg base CX0 2 f fd ["_law_script", "_law_many", "_law_way"] (spRows K) ∧ Binds K fd ["_law_script", "_law_many", "_law_way"] []
  som : ∃ f fd, mg "_law_some" = some (.ref f) ∧ PySem.W.keepIn K (.ref f) = true ∧ FnOk P w K mg base CX0 1 f fd ["_law_rows_here", "_law_bound"] (spSome K) ∧ Binds K fd ["_law_rows_here", "_law_bound"] []
  tol : ∃ f fd, mg "_law_told" = some (.ref f) ∧ PySem.W.keepIn K (.ref f) = true ∧ FnOk P w K mg base CX0 4 f fd ["_law_web", "_law_many", "_law_some_here"] (spTold C) ∧ Binds K fd ["_law_web", "_law_many", "_law_some_here"] []
def spLaw (K : PySem.W.Frag) : Sp := fun vs H Q _ => ∃ (a : Addr) (ns : List Int), vs = [.ref a] ∧ SqL K H a (ns.map V.int) ∧ ns.length ≤ 63 ∧ ∀ H', Q (.bl true) H'
abbrev nmL : List Str := ["_law_script", "_law_head", "_law_many", "_law_rows_here", "_law_web", "_law_some_here"]
theorem scLaw : FnScope nmL ["_law_script"] (defScope sLaw) := ⟨rfl, rfl, rfl, by decide +kernel, rfl, by decide +kernel, by decide +kernel⟩
abbrev XL (P : Program) (w : World) (K : PySem.W.Frag) (mg : Str → Option Value) (base : Heap) (f : Addr) (cdv : Value) (A : Around) (outer : List Env) (s : Shared) (H : Hp) (E : XK) : Cx := (cxOf CX0 P w K mg base nmL "law" (defScope sLaw) f cdv A outer s H E).nox
theorem ok_law {f CT CB C2 : Addr} {fd : FuncData} (F : Fun K "law" "law" sLaw f fd) (G : CallsL P w K mg base C CT CB C2) : FnOk P w K mg base CX0 5 f fd ["_law_script"] (spLaw K) := by
  obtain ⟨fI, fdI, MI, GI, bI⟩ := G.ini
  obtain ⟨f1, fd1, m1, k1, G1, b1⟩ := G.cel
  obtain ⟨f2, fd2, m2, k2, G2, b2⟩ := G.row
  obtain ⟨f4, fd4, m4, k4, G4, b4⟩ := G.som
  obtain ⟨f5, fd5, m5, k5, G5, b5⟩ := G.tol
  refine F.ok scLaw (fun vs H Q E h => ?_) (fun cdv A outer s H vs Q E hr h => ?_)
  · obtain ⟨a, ns, rfl, _⟩ := h
    rfl
  · obtain ⟨a, ns, rfl, hS, hns, hQ⟩ := h
    have hr1 : Room 1 (XL P w K mg base f cdv A outer s H E).A := hr.mono (by decide)
    have hr2 : Room 2 (XL P w K mg base f cdv A outer s H E).A := hr.mono (by decide)
    have hr4 : Room 4 (XL P w K mg base f cdv A outer s H E).A := hr
    refine' ⟨_, pss_cons ?s0 (pss_cons ?s1 (pss_cons ?s2 (pss_cons ?s3 (pss_cons ?s4 (pss_cons ?s5 (pss_one ?s6)))))), ?_⟩
    case s0 => exact ps_set (i := 1) scLaw.nd rfl (Or.inl rfl) (pe_op op_mod (pe_call G1 hr1 rfl m1 k1 b1 .nil pass0 (pa_cons (pv 0) (pa_cons pe_int pa_nil))) pe_int)
    case s1 => exact ps_set (i := 2) scLaw.nd rfl (Or.inl rfl) (pe_ix ix_list (pe_lst (pa_cons (pe_op op_mod (pe_op op_fdiv (pv 1) pe_int) pe_int) (pa_cons (pe_op op_add pe_int (pe_op op_mod (pe_op op_fdiv (pv 1) pe_int) pe_int)) pa_nil))) (pe_op op_mod (pv 1) pe_int) (fun _ _ => rfl))
    case s2 => exact ps_set (i := 3) scLaw.nd rfl (Or.inl rfl) (pe_call G2 hr2 rfl m2 k2 b2 .nil pass0 (pa_cons (pv 0) (pa_cons (pv 2) (pa_cons (pe_op op_mod (pe_op op_fdiv (pv 1) pe_int) pe_int) pa_nil))))
    case s3 => exact ps_set (i := 4) scLaw.nd rfl (Or.inl rfl) (pe_make MI GI hr4 rfl G.web.mgC bI .nil passNo (pa_cons (pv 2) (pa_cons (pv 3) pa_nil)))
    case s4 => exact ps_set (i := 5) scLaw.nd rfl (Or.inl rfl) (pe_call G4 hr1 rfl m4 k4 b4 .nil pass0 (pa_cons (pv 3) (pa_cons (pe_ix ix_list (pe_lst (pa_cons pe_int (pa_cons (pe_op op_mod (pe_op op_fdiv (pv 1) pe_int) pe_int) pa_nil))) (pe_op op_mod (pe_op op_fdiv (pv 1) pe_int) pe_int) (fun _ _ => rfl)) pa_nil)))
    case s5 => exact ps_if (pw_or (pt_not (pt_val (pe_call G5 hr4 (by rfl) m5 k5 b5 .nil pass0 (pa_cons (pv 4) (pa_cons (pv 2) (pa_cons (pv 5) pa_nil)))))) (pw_or1 (pt_not (pt_val (pe_call G5 hr4 (by rfl) m5 k5 b5 .nil pass0 (pa_cons (pv 4) (pa_cons (pv 2) (pa_cons (pe_slice sl_list (pv 5) po_none (po_some (pe_op op_mod (pe_op op_fdiv (pv 1) pe_int) pe_int))) pa_nil)))))))).pt (pss_one (ps_ret pe_bl)) pss_nil
    case s6 => exact ps_ret (pe_and (pe_call G5 hr4 (by rfl) m5 k5 b5 .nil pass0 (pa_cons (pv 4) (pa_cons (pv 2) (pa_cons (pe_lst pa_nil) pa_nil)))) (pe_one (pe_call G5 hr4 (by rfl) m5 k5 b5 .nil pass0 (pa_cons (pv 4) (pa_cons (pv 2) (pa_cons (pv 5) pa_nil))))))
    -- head
    refine ⟨_, rfl, a, ns, 0, rfl, hS, fun n0 => ⟨_, _, rfl, rfl, (by show (0 : Int) < 1000003; decide), ?_⟩⟩
    dsimp only
    show tSeq _ _ _ [some (.ref a), some (.int (n0 % 1000003)), none, none, none, none] H
    generalize n0 % 1000003 = h
    -- many
    refine ⟨_, rfl, _, _, rfl, rfl, ⟨by decide, by decide⟩, _, _, rfl, rfl, (by show (0 : Int) < 25; decide), _, rfl, _, _, rfl, rfl, ⟨by decide, by decide⟩, _, _, rfl, rfl, (by show (0 : Int) < 8; decide), _, _, rfl, rfl, (by show 2 ≤ sizeLine; decide), fun l hl => ?_⟩
    obtain ⟨m, hm, hv⟩ := pick2 (xs := [h / 8 % 25, 2 + h / 8 % 8]) (z := h % 2) (by omega) (by show h % 2 < 2; omega)
    have mm : 0 ≤ m ∧ m ≤ 24 := by
      simp only [List.mem_cons, List.not_mem_nil, or_false] at hm
      rcases hm with rfl | rfl <;> omega
    have s1 : Same H (upd H l (.lst [.int (h / 8 % 25), .int (2 + h / 8 % 8)])) := Same.new hl
    refine ⟨_, rfl, _, _, rfl, rfl, (by show (0 : Int) < 2; decide), l, _, _, _, rfl, rfl, SqL.of upd_same, hv, ?_⟩
    dsimp only
    show tSeq _ _ _ [some (.ref a), some (.int h), some (.int m), none, none, none] (upd H l (.lst [.int (h / 8 % 25), .int (2 + h / 8 % 8)]))
    generalize upd H l (.lst [.int (h / 8 % 25), .int (2 + h / 8 % 8)]) = H1 at s1 ⊢
    -- rows
    refine ⟨_, rfl, _, rfl, _, rfl, _, _, rfl, rfl, ⟨by decide, by decide⟩, _, _, rfl, rfl, (by show (0 : Int) < 2; decide), a, m, _, ns, rfl, s1.seq hS, hns, mm.1, mm.2, fun r rs T H2 s2 hr0 hT0 lT sg => ?_⟩
    have R2 : RowsAt K H2 r rs T := ⟨SqL.of hr0, hT0⟩
    -- web
    refine ⟨_, rfl, _, rfl, fun x dx hx hdx ndx => ?_⟩
    have s6 : Same H2 (upd (upd H2 dx (.own x)) x (.ins C dx [])) := fun b o e => by
      rw [upd_ne (ne_of_none e hx), upd_ne (ne_of_none e hdx)]
      exact e
    have nc : ¬ (m < 0 ∨ 24 < m) := by omega
    refine ⟨x, m, r, dx, rs, T, rfl, upd_same, R2.same s6, by omega, fun c H' _ => (nc c).elim, fun _ => ⟨fun z => (by rw [sg] at z; cases z), fun z => (by rw [sg] at z; cases z), fun _ H3 ks k7 W3 => ⟨rfl, ?_⟩⟩⟩
    have s3 : Same H2 H3 := fun b o e => k7 b o (s6 b o e) (ne_of_none e hx)
    have W3 := W3.web
    have R3 := R2.same s3
    dsimp only [gName, List.set_cons_succ, List.set_cons_zero]
    -- some
    refine ⟨_, rfl, _, rfl, _, _, rfl, rfl, ⟨by decide, by decide⟩, _, _, rfl, rfl, (by show (0 : Int) < 13; decide), (by show 2 ≤ sizeLine; decide), fun l2 hl2 => ?_⟩
    have s4 : Same H3 (upd H3 l2 (.lst [.int 24, .int (h / 4 % 13)])) := Same.new hl2
    obtain ⟨bd, _, hv2⟩ := pick2 (xs := [24, h / 4 % 13]) (z := h / 52 % 2) (by omega) (by show h / 52 % 2 < 2; omega)
    refine ⟨_, rfl, _, _, rfl, rfl, ⟨by decide, by decide⟩, _, _, rfl, rfl, (by show (0 : Int) < 2; decide), l2, _, _, _, rfl, rfl, SqL.of upd_same, hv2, r, rs, T, bd, rfl, R3.same s4, lT, fun g qs U H5 s5 hg hT5 hU lU => ?_⟩
    have W5 := W3.same (s4.trans s5)
    dsimp only [gName, List.set_cons_succ, List.set_cons_zero]
    -- told, and told of the first ones
    refine ⟨_, rfl, _, rfl, _, rfl, x, g, m, T, ks, qs, U, rfl, W5, hg, hT5, hU, lU, fun H6 s6' => ⟨true, rfl, iteF ?_⟩⟩
    refine ⟨_, rfl, _, rfl, _, rfl, _, rfl, _, _, rfl, rfl, ⟨by decide, by decide⟩, _, _, rfl, rfl, (by show (0 : Int) < 5; decide), _, rfl, g, _, rfl, SqL.of (s6' g _ hg), fun l3 hl3 => ?_⟩
    rw [cut_map]
    have s7 : Same H6 (upd H6 l3 (.lst ((cutA qs none (some (h / 3 % 5))).map V.ref))) := Same.new hl3
    have s57 := s6'.trans s7
    have lc := cutA_len U none (some (h / 3 % 5))
    refine ⟨x, l3, m, T, ks, _, cutA U none (some (h / 3 % 5)), rfl, W5.same s57, upd_same, ?_, fun u hu => hU u (cutA_mem hu), by omega, fun H8 s8 => ⟨true, rfl, iteF ?_⟩⟩
    · have e := cut_tups none (some (h / 3 % 5)) (TupsH.same s57 hT5)
      rw [cutA_map] at e
      exact e
    have s58 := s57.trans s8
    refine ⟨_, rfl, _, rfl, Nat.zero_le _, fun l4 hl4 => ?_⟩
    have s9 : Same H8 (upd H8 l4 (.lst [])) := Same.new hl4
    have s59 := s58.trans s9
    refine ⟨x, l4, m, T, ks, [], [], rfl, W5.same s59, upd_same, .nil, fun u hu => (by cases hu), Nat.zero_le _, fun H10 s10 => ⟨true, rfl, iteT ?_⟩⟩
    have s510 := s59.trans s10
    exact ⟨_, rfl, _, rfl, _, rfl, x, g, m, T, ks, qs, U, rfl, W5.same s510, s510 g _ hg, TupsH.same s510 hT5, hU, lU, fun H11 _ => hQ _⟩
end
end K15

/-! ### k15: all of it from the top -/
namespace K15
open PySem L2 PyProof.Rows
/-- a def of the top -/
def DefAt (K : PySem.W.Frag) (mg : Str → Option Value) (x : Str) (st : Stmt) : Prop := ∃ f fd, mg x = some (.ref f) ∧ Fun K x x st f fd
theorem def_mk {K : PySem.W.Frag} {mg : Str → Option Value} {h : Heap} {x : Str} {st : Stmt} {f : Addr} {oc : Value} {od an : Option Addr} {osl : Array (Option Value)} {kV doc pm cdv ct : Value} (X : K.In h) (G : h.Ns mainGlobals mg)
    (a : PySem.W.nsIn K mainGlobals x = some (some (.ref f))) (l : K.lookup f = some ⟨oc, od, .func (PySem.W.fnOf x x (defArgs st) (defBody st) (defScope st) .none kV doc pm an cdv ct), osl⟩)
    (c : PySem.W.codeIn K cdv x = true) (k : PySem.W.keepIn K (.ref f) = true) : DefAt K mg x st := ⟨f, _, PySem.W.mg_of X G a, fun_mk l c k⟩
/-- a method of a class -/
def MetAt (K : PySem.W.Frag) (C : Addr) (x q : Str) (st : Stmt) : Prop := ∃ f fd, Meth K C x f ∧ Fun K x q st f fd
theorem met_mk {K : PySem.W.Frag} {C : Addr} {x q : Str} {st : Stmt} {f : Addr} {oc : Value} {od an : Option Addr} {osl : Array (Option Value)} {kV doc pm cdv ct : Value}
    (a : PySem.W.findIn K (.ref C) x = some (some (.ref f))) (i : PySem.W.isFn K (.ref f) = true) (l : K.lookup f = some ⟨oc, od, .func (PySem.W.fnOf x q (defArgs st) (defBody st) (defScope st) .none kV doc pm an cdv ct), osl⟩)
    (c : PySem.W.codeIn K cdv q = true) (k : PySem.W.keepIn K (.ref f) = true) : MetAt K C x q st := ⟨f, _, ⟨a, i, k⟩, fun_mk l c k⟩
theorem cls_mk {K : PySem.W.Frag} {C : Addr} (pg : PySem.W.plainGet K C Str.empty = true) (hd : PySem.W.hasDictIn K C = true) (po : PySem.W.plainOver K C = true) (sa : PySem.W.findIn K (.ref C) "__setattr__" = some (some (.builtin "object.__setattr__"))) : Cls K C := ⟨pg, hd, po, sa⟩
theorem calls_mk {P : Program} {w : World} {K : PySem.W.Frag} {mg : Str → Option Value} {base : Heap} {C CT CB C2 : Addr} {u24 : Value} (web : TxtW K mg C) (eT : ExcC K mg "TooMany" CT mroV newV) (eB : ExcC K mg "BadTie" CB mroV newV) (eD : ExcC K mg "Twice" C2 mroV newV) (g24 : mg "MOST_POINTS" = some u24) (r24 : RelV (.int 24) u24) (mk : PySem.W.makesIn K C = true) (kc : PySem.W.keepIn K (.ref C) = true)
    (g_isinstance : mg "isinstance" = none) (g_int : mg "int" = none) (g_bool : mg "bool" = none) (g_min : mg "min" = none) (g_max : mg "max" = none) (g_len : mg "len" = none) (g_range : mg "range" = none) (g_all : mg "all" = none) (g_sum : mg "sum" = none)
    (ii : PySem.W.kitOne K (.type "int") (.type "int") = some true) (ib : PySem.W.kitOne K (.type "int") (.type "bool") = some false) (ll : PySem.W.kitOne K (.type "list") (.type "list") = some true)
    (d0 : DefAt K mg "check_size" sSize) (d1 : DefAt K mg "check_ends" sEnds) (d2 : DefAt K mg "ordered" sOrd) (d3 : DefAt K mg "weights_of" sWts) (d4 : DefAt K mg "neighbours_of" sNb) (d5 : DefAt K mg "partners_of" sPart) (d6 : DefAt K mg "worth" sWorth) (d7 : DefAt K mg "left" sLeft) (d8 : DefAt K mg "partner" sPner) (d9 : DefAt K mg "_law_cell_at" sCell) (d10 : DefAt K mg "_law_whole" sWhole) (d11 : DefAt K mg "_law_mixed" sMix) (d12 : DefAt K mg "_law_rows" sRows) (d13 : DefAt K mg "_law_some" sSome) (d14 : DefAt K mg "_law_told" sTold)
    (mI : MetAt K C "__init__" "Web.__init__" sInit) (mS : MetAt K C "size" "Web.size" sMSize) (mG : MetAt K C "weight" "Web.weight" sWeight) : CallsL P w K mg base C CT CB C2 := by
  obtain ⟨f0, fd0, m0, F0⟩ := d0
  obtain ⟨f1, fd1, m1, F1⟩ := d1
  obtain ⟨f2, fd2, m2, F2⟩ := d2
  obtain ⟨f3, fd3, m3, F3⟩ := d3
  obtain ⟨f4, fd4, m4, F4⟩ := d4
  obtain ⟨f5, fd5, m5, F5⟩ := d5
  obtain ⟨f6, fd6, m6, F6⟩ := d6
  obtain ⟨f7, fd7, m7, F7⟩ := d7
  obtain ⟨f8, fd8, m8, F8⟩ := d8
  obtain ⟨f9, fd9, m9, F9⟩ := d9
  obtain ⟨f10, fd10, m10, F10⟩ := d10
  obtain ⟨f11, fd11, m11, F11⟩ := d11
  obtain ⟨f12, fd12, m12, F12⟩ := d12
  obtain ⟨f13, fd13, m13, F13⟩ := d13
  obtain ⟨f14, fd14, m14, F14⟩ := d14
  obtain ⟨fI, fdI, MI, FI⟩ := mI
  obtain ⟨fS, fdS, MS, FS⟩ := mS
  obtain ⟨fG, fdG, MG, FG⟩ := mG
  have b0 := F0.binds (ps := ["many"]) fun _ _ _ _ _ _ us hl => match us, hl with | [_], _ => rfl
  have b1 := F1.binds (ps := ["many", "a", "b"]) fun _ _ _ _ _ _ us hl => match us, hl with | [_, _, _], _ => rfl
  have b2 := F2.binds (ps := ["a", "b"]) fun _ _ _ _ _ _ us hl => match us, hl with | [_, _], _ => rfl
  have b3 := F3.binds (ps := ["many", "ties"]) fun _ _ _ _ _ _ us hl => match us, hl with | [_, _], _ => rfl
  have b4 := F4.binds (ps := ["many", "ends_sorted"]) fun _ _ _ _ _ _ us hl => match us, hl with | [_, _], _ => rfl
  have b5 := F5.binds (ps := ["pairs"]) fun _ _ _ _ _ _ us hl => match us, hl with | [_], _ => rfl
  have b6 := F6.binds (ps := ["web", "pairs"]) fun _ _ _ _ _ _ us hl => match us, hl with | [_, _], _ => rfl
  have b7 := F7.binds (ps := ["web", "pairs"]) fun _ _ _ _ _ _ us hl => match us, hl with | [_, _], _ => rfl
  have b8 := F8.binds (ps := ["pairs", "a"]) fun _ _ _ _ _ _ us hl => match us, hl with | [_, _], _ => rfl
  have b9 := F9.binds (ps := ["_law_script", "_law_k"]) fun _ _ _ _ _ _ us hl => match us, hl with | [_, _], _ => rfl
  have b10 := F10.binds (ps := ["_law_found"]) fun _ _ _ _ _ _ us hl => match us, hl with | [_], _ => rfl
  have b11 := F11.binds (ps := ["_law_cell", "_law_factor"]) fun _ _ _ _ _ _ us hl => match us, hl with | [_, _], _ => rfl
  have b12 := F12.binds (ps := ["_law_script", "_law_many", "_law_way"]) fun _ _ _ _ _ _ us hl => match us, hl with | [_, _, _], _ => rfl
  have b13 := F13.binds (ps := ["_law_rows_here", "_law_bound"]) fun _ _ _ _ _ _ us hl => match us, hl with | [_, _], _ => rfl
  have b14 := F14.binds (ps := ["_law_web", "_law_many", "_law_some_here"]) fun _ _ _ _ _ _ us hl => match us, hl with | [_, _, _], _ => rfl
  have bI := FI.binds (ps := ["self", "many", "ties"]) fun _ _ _ _ _ _ us hl => match us, hl with | [_, _, _], _ => rfl
  have bS := FS.binds (ps := ["self"]) fun _ _ _ _ _ _ us hl => match us, hl with | [_], _ => rfl
  have bG := FG.binds (ps := ["self", "a", "b"]) fun _ _ _ _ _ _ us hl => match us, hl with | [_, _, _], _ => rfl
  have kit : Kit K mg := ⟨ii, ib, ll, g_isinstance, g_int, g_bool, web.lst⟩
  have G0 := ok_size (P := P) (w := w) (mg := mg) (base := base) F0 eT g24 r24
  have G1 := ok_ends (P := P) (w := w) (mg := mg) (base := base) F1 eB
  have G2 := ok_ord (P := P) (w := w) (mg := mg) (base := base) F2 g_min g_max
  have G3 := ok_wts (P := P) (w := w) (mg := mg) (base := base) F3 eD G1 m1 F1.kp b1 G2 m2 F2.kp b2
  have G4 := ok_nb (P := P) (w := w) (mg := mg) (base := base) F4 g_range
  have GI := ok_init (P := P) (w := w) (mg := mg) (base := base) FI web G0 m0 F0.kp b0 G3 m3 F3.kp b3 G4 m4 F4.kp b4
  have GS := ok_msize (P := P) (w := w) (mg := mg) (base := base) FS web
  have GG := ok_weight (P := P) (w := w) (mg := mg) (base := base) FG web G2 m2 F2.kp b2
  have G5 := ok_part (P := P) (w := w) (mg := mg) (base := base) F5
  have G6 := ok_worth (P := P) (w := w) (mg := mg) (base := base) F6 web g_sum MG GG bG
  have G7 := ok_left (P := P) (w := w) (mg := mg) (base := base) F7 web g_range G5 m5 F5.kp b5 MS GS bS
  have G8 := ok_pner (P := P) (w := w) (mg := mg) (base := base) F8 G5 m5 F5.kp b5
  have G9 := ok_cell (P := P) (w := w) (mg := mg) (base := base) F9 g_len
  have G10 := ok_whole (P := P) (w := w) (mg := mg) (base := base) F10 kit
  have G11 := ok_mix (P := P) (w := w) (mg := mg) (base := base) F11
  have G12 := ok_rows (P := P) (w := w) (mg := mg) (base := base) F12 g_min g_max G11 m11 F11.kp b11
  have G13 := ok_some (P := P) (w := w) (mg := mg) (base := base) F13 g_min g_max g_len web.srt
  have R : CallsT P w K mg base C := ⟨web, kit, g_all, g_range, g_sum, ⟨f10, fd10, m10, F10.kp, G10, b10⟩, ⟨f7, fd7, m7, F7.kp, G7, b7⟩, ⟨f8, fd8, m8, F8.kp, G8, b8⟩, ⟨f6, fd6, m6, F6.kp, G6, b6⟩⟩
  have G14 := ok_told (P := P) (w := w) (mg := mg) (base := base) F14 R
  exact ⟨web, ⟨fI, fdI, ⟨mk, MI.at_, MI.fn, kc⟩, GI, bI⟩, ⟨f9, fd9, m9, F9.kp, G9, b9⟩, ⟨f12, fd12, m12, F12.kp, G12, b12⟩, ⟨f13, fd13, m13, F13.kp, G13, b13⟩, ⟨f14, fd14, m14, F14.kp, G14, b14⟩⟩
theorem law_mk {P : Program} {w : World} {K : PySem.W.Frag} {mg : Str → Option Value} {C CT CB C2 fa : Addr} (hmg : mg "law" = some (.ref fa)) (d : DefAt K mg "law" sLaw) (G : ∀ base : Heap, CallsL P w K mg base C CT CB C2) :
    ∃ fd : FuncData, (∀ (s : Shared) (u : Value), BindsTo s fd ⟨[u], []⟩ [("_law_script", u)]) ∧ ∀ base : Heap, K.In base → base.Ns mainGlobals mg → FnOk P w K mg base CX0 5 fa fd ["_law_script"] (spLaw K) := by
  obtain ⟨f, fd, m, F⟩ := d
  cases hmg.symm.trans m
  obtain ⟨oc, od, kV, doc, pm, an, cdv, ct, osl, rfl, l, c⟩ := F.ex
  exact ⟨_, fun s u => .of_eq rfl, fun base _ _ => ok_law F (G base)⟩
theorem all_mk {P : Program} {w : World} {K : PySem.W.Frag} {mg : Str → Option Value} {h : Heap} {fa C T B D : Addr} {t24 : Tok} (X : K.In h) (G : h.Ns mainGlobals mg) (hmg : mg "law" = some (.ref fa))
    (aC : PySem.W.nsIn K mainGlobals "Web" = some (some (.ref C))) (aT : PySem.W.nsIn K mainGlobals "TooMany" = some (some (.ref T))) (aB : PySem.W.nsIn K mainGlobals "BadTie" = some (some (.ref B))) (aD : PySem.W.nsIn K mainGlobals "Twice" = some (some (.ref D))) (a24 : PySem.W.nsIn K mainGlobals "MOST_POINTS" = some (some (.int 24 t24))) (z0 : PySem.W.nsIn K mainGlobals "isinstance" = some none) (z1 : PySem.W.nsIn K mainGlobals "int" = some none) (z2 : PySem.W.nsIn K mainGlobals "bool" = some none) (z3 : PySem.W.nsIn K mainGlobals "min" = some none) (z4 : PySem.W.nsIn K mainGlobals "max" = some none) (z5 : PySem.W.nsIn K mainGlobals "len" = some none) (z6 : PySem.W.nsIn K mainGlobals "range" = some none) (z7 : PySem.W.nsIn K mainGlobals "all" = some none) (z8 : PySem.W.nsIn K mainGlobals "sum" = some none) (zs : PySem.W.nsIn K mainGlobals "sorted" = some none) (zl : PySem.W.nsIn K mainGlobals "list" = some none) (cls : Cls K C) (mk : PySem.W.makesIn K C = true) (kc : PySem.W.keepIn K (.ref C) = true) (n1 : PySem.W.findIn K (.ref C) "many" = some none) (n2 : PySem.W.findIn K (.ref C) "weights" = some none) (n3 : PySem.W.findIn K (.ref C) "ties_sorted" = some none) (n4 : PySem.W.findIn K (.ref C) "neighbours" = some none) (eT : PySem.W.excIn K T mroV newV = true) (eB : PySem.W.excIn K B mroV newV = true) (eD : PySem.W.excIn K D mroV newV = true)
    (ii : PySem.W.kitOne K (.type "int") (.type "int") = some true) (ib : PySem.W.kitOne K (.type "int") (.type "bool") = some false) (ll : PySem.W.kitOne K (.type "list") (.type "list") = some true)
    (d0 : DefAt K mg "check_size" sSize) (d1 : DefAt K mg "check_ends" sEnds) (d2 : DefAt K mg "ordered" sOrd) (d3 : DefAt K mg "weights_of" sWts) (d4 : DefAt K mg "neighbours_of" sNb) (d5 : DefAt K mg "partners_of" sPart) (d6 : DefAt K mg "worth" sWorth) (d7 : DefAt K mg "left" sLeft) (d8 : DefAt K mg "partner" sPner) (d9 : DefAt K mg "_law_cell_at" sCell) (d10 : DefAt K mg "_law_whole" sWhole) (d11 : DefAt K mg "_law_mixed" sMix) (d12 : DefAt K mg "_law_rows" sRows) (d13 : DefAt K mg "_law_some" sSome) (d14 : DefAt K mg "_law_told" sTold)
    (mI : MetAt K C "__init__" "Web.__init__" sInit) (mS : MetAt K C "size" "Web.size" sMSize) (mG : MetAt K C "weight" "Web.weight" sWeight) (dL : DefAt K mg "law" sLaw) :
    ∃ fd : FuncData, (∀ (s : Shared) (u : Value), BindsTo s fd ⟨[u], []⟩ [("_law_script", u)]) ∧ ∀ base : Heap, K.In base → base.Ns mainGlobals mg → FnOk P w K mg base CX0 5 fa fd ["_law_script"] (spLaw K) := by
  have z := fun {x : Str} (e : PySem.W.nsIn K mainGlobals x = some none) => PySem.W.mg_none_of X G e
  have q := fun {x : Str} {v : Value} (e : PySem.W.nsIn K mainGlobals x = some (some v)) => PySem.W.mg_of X G e
  refine law_mk (C := C) (CT := T) (CB := B) (C2 := D) hmg dL fun base => ?_
  exact calls_mk ⟨cls, n1, n2, n3, n4, q aC, z zs, z zl⟩ ⟨q aT, eT⟩ ⟨q aB, eB⟩ ⟨q aD, eD⟩ (q a24) ⟨_, rfl⟩ mk kc (z z0) (z z1) (z z2) (z z3) (z z4) (z z5) (z z6) (z z7) (z z8) ii ib ll d0 d1 d2 d3 d4 d5 d6 d7 d8 d9 d10 d11 d12 d13 d14 mI mS mG
theorem walk {l : PySem.W.OpenLaw} {q : Program} {loose : List Str} {XP : (Str → Option Value) → Heap → Prop} {YP : World → Heap → Prop} {d : DefRec} {K : Params → PySem.W.Frag} (hn : l.most = some 63) (hdf : d.params.defaults = [])
    (hY : ∀ (w : World) (h : Heap), YP w h → (K w.params).In h)
    (F : ∀ (w : World) (mg : Str → Option Value) (fa : Addr) (h : Heap), (K w.params).In h → h.Ns mainGlobals mg → mg d.name = some (.ref fa) →
      ∃ fd : FuncData, (∀ (s : Shared) (u : Value), BindsTo s fd ⟨[u], []⟩ [("_law_script", u)]) ∧ ∀ base : Heap, (K w.params).In base → base.Ns mainGlobals mg → FnOk l.prog w (K w.params) mg base CX0 5 fa fd ["_law_script"] (spLaw (K w.params))) :
    PySem.W.WalkO q loose XP YP l.row.toRowW d [] (fun f vs => PySem.call f vs) :=
  L2.walk_of (n := 63) (k := 5) (x := "_law_script") (CX := fun _ => CX0) (sp := fun w => spLaw (K w.params)) hn (by decide) hdf ⟨rfl, by decide, by decide⟩ hY F (fun _ _ a ns hl _ hS => ⟨a, ns, rfl, hS, hl, fun _ => rfl⟩) fun _ _ _ _ _ z => z
end K15

open PySem PySem.W PyProof.Rows
set_option maxRecDepth 100000 in
set_option maxHeartbeats 0 in
theorem PySem.Challenge.cw_pairsheath_k15_worth_left_partner_holds : PySem.Challenge.rw_pairsheath_k15_worth_left_partner.Holds := by
  w_on; o_law; k_head; (case hw => w_witness2)
  k_fill
  refine K15.walk (l := PySem.Challenge.rw_pairsheath_k15_worth_left_partner) rfl rfl (fun w h Y => PySem.W.kIn_of Y) ?F
  case F =>
    intro w mg fa h KX G hmg
    refine' K15.all_mk KX G hmg ?aC ?aT ?aB ?aD ?a24 ?z0 ?z1 ?z2 ?z3 ?z4 ?z5 ?z6 ?z7 ?z8 ?zs ?zl ?cls ?mk ?kc ?n1 ?n2 ?n3 ?n4 ?eT ?eB ?eD ?ii ?ib ?ll ?d0 ?d1 ?d2 ?d3 ?d4 ?d5 ?d6 ?d7 ?d8 ?d9 ?d10 ?d11 ?d12 ?d13 ?d14 ?mI ?mS ?mG ?dL
    (case aC => k_is)
    (case aT => k_is)
    (case aB => k_is)
    (case aD => k_is)
    (case a24 => k_is)
    (case z0 => k_is)
    (case z1 => k_is)
    (case z2 => k_is)
    (case z3 => k_is)
    (case z4 => k_is)
    (case z5 => k_is)
    (case z6 => k_is)
    (case z7 => k_is)
    (case z8 => k_is)
    (case zs => k_is)
    (case zl => k_is)
    (case cls => refine' K15.cls_mk ?pg ?hd ?po ?sa; (case pg => k_is); (case hd => k_is); (case po => k_is); (case sa => k_is))
    (case mk => k_is)
    (case kc => k_is)
    (case n1 => k_is)
    (case n2 => k_is)
    (case n3 => k_is)
    (case n4 => k_is)
    (case eT => k_exc)
    (case eB => k_exc)
    (case eD => k_exc)
    (case ii => kit_is)
    (case ib => kit_is)
    (case ll => kit_is)
    (case d0 => refine' K15.def_mk KX G ?a ?l ?c ?k; (case a => k_is); (case l => k_is); (case c => k_is); (case k => k_is))
    (case d1 => refine' K15.def_mk KX G ?a ?l ?c ?k; (case a => k_is); (case l => k_is); (case c => k_is); (case k => k_is))
    (case d2 => refine' K15.def_mk KX G ?a ?l ?c ?k; (case a => k_is); (case l => k_is); (case c => k_is); (case k => k_is))
    (case d3 => refine' K15.def_mk KX G ?a ?l ?c ?k; (case a => k_is); (case l => k_is); (case c => k_is); (case k => k_is))
    (case d4 => refine' K15.def_mk KX G ?a ?l ?c ?k; (case a => k_is); (case l => k_is); (case c => k_is); (case k => k_is))
    (case d5 => refine' K15.def_mk KX G ?a ?l ?c ?k; (case a => k_is); (case l => k_is); (case c => k_is); (case k => k_is))
    (case d6 => refine' K15.def_mk KX G ?a ?l ?c ?k; (case a => k_is); (case l => k_is); (case c => k_is); (case k => k_is))
    (case d7 => refine' K15.def_mk KX G ?a ?l ?c ?k; (case a => k_is); (case l => k_is); (case c => k_is); (case k => k_is))
    (case d8 => refine' K15.def_mk KX G ?a ?l ?c ?k; (case a => k_is); (case l => k_is); (case c => k_is); (case k => k_is))
    (case d9 => refine' K15.def_mk KX G ?a ?l ?c ?k; (case a => k_is); (case l => k_is); (case c => k_is); (case k => k_is))
    (case d10 => refine' K15.def_mk KX G ?a ?l ?c ?k; (case a => k_is); (case l => k_is); (case c => k_is); (case k => k_is))
    (case d11 => refine' K15.def_mk KX G ?a ?l ?c ?k; (case a => k_is); (case l => k_is); (case c => k_is); (case k => k_is))
    (case d12 => refine' K15.def_mk KX G ?a ?l ?c ?k; (case a => k_is); (case l => k_is); (case c => k_is); (case k => k_is))
    (case d13 => refine' K15.def_mk KX G ?a ?l ?c ?k; (case a => k_is); (case l => k_is); (case c => k_is); (case k => k_is))
    (case d14 => refine' K15.def_mk KX G ?a ?l ?c ?k; (case a => k_is); (case l => k_is); (case c => k_is); (case k => k_is))
    (case mI => refine' K15.met_mk ?a ?i ?l ?c ?k; (case a => k_is); (case i => k_is); (case l => k_is); (case c => k_is); (case k => k_is))
    (case mS => refine' K15.met_mk ?a ?i ?l ?c ?k; (case a => k_is); (case i => k_is); (case l => k_is); (case c => k_is); (case k => k_is))
    (case mG => refine' K15.met_mk ?a ?i ?l ?c ?k; (case a => k_is); (case i => k_is); (case l => k_is); (case c => k_is); (case k => k_is))
    (case dL => refine' K15.def_mk KX G ?a ?l ?c ?k; (case a => k_is); (case l => k_is); (case c => k_is); (case k => k_is))
