import PyProof.Rows.All
import Wide.All
import OpenK.AllK
import Wide.FinOn
import Lean
import PyProof.EqAt
import PyProof.EqKinds
import PyProof.TupleCall
import PySem.Challenge.RW_pairsheath_k29_whole_choices_laid_open
noncomputable section
set_option Elab.async false
set_option linter.all false
set_option maxRecDepth 100000
set_option maxHeartbeats 4000000
theorem gz9 {G : Prop} (k : ∀ G' : Prop, (G -> G') -> G') : G := k G id
namespace L2
open PySem PySem.Spec PyProof.Rows
noncomputable abbrev Key := Sum Int Str
noncomputable def keyIs : Key -> Value -> Bool
 | .inl k, v => Value.isInt k v
 | .inr x, v => Value.isStrOf x v
noncomputable def keyH (w : World) : Key -> Int
 | .inl k => hashInt k
 | .inr x => hashStr w x
theorem keyIs_shape : ∀ {k : Key} {v : Value}, keyIs k v = true -> (∃ i t, k = Sum.inl i /\ v = Value.int i t) \/ (∃ x t, k = Sum.inr x /\ v = Value.str x t)
 | .inl i, v, h => by
  obtain ⟨t, e⟩ := Value.isInt_shape (k := i) (v := v) h
  exact .inl ⟨i, t, rfl, e⟩
 | .inr x, v, h => by
  obtain ⟨t, e⟩ := Value.isStrOf_shape (x := x) (v := v) h
  exact .inr ⟨x, t, rfl, e⟩
theorem keyIs_int (i : Int) (t : Tok) : keyIs (.inl i) (.int i t) = true := by simp [keyIs, Value.isInt]
theorem keyIs_str (x : Str) (t : Tok) : keyIs (.inr x) (.str x t) = true := by simp [keyIs, Value.isStrOf]
theorem key_ll (a b : Int) : decide ((Sum.inl a : Key) = Sum.inl b) = (a == b) := by
 by_cases e : a = b
 ·subst e; simp
 ·have h : ¬ (Sum.inl a : Key) = Sum.inl b := fun q => e (Sum.inl.inj q)
  rw [decide_eq_false h]
  exact (beq_eq_false_iff_ne.mpr e).symm
theorem key_rr (a b : Str) : decide ((Sum.inr a : Key) = Sum.inr b) = decide (a = b) := by
 by_cases e : a = b
 ·subst e; simp
 ·have h : ¬ (Sum.inr a : Key) = Sum.inr b := fun q => e (Sum.inr.inj q)
  rw [decide_eq_false h, decide_eq_false e]
theorem key_lr (a : Int) (b : Str) : decide ((Sum.inl a : Key) = Sum.inr b) = false := decide_eq_false (fun q => nomatch q)
theorem key_rl (a : Str) (b : Int) : decide ((Sum.inr a : Key) = Sum.inl b) = false := decide_eq_false (fun q => nomatch q)
noncomputable def mixKind (prog : Program) (w : World) : PySem.KeyKind prog w Key where
 is := keyIs
 hash := keyH w
 inj := fun v a b ha hb => by
  rcases keyIs_shape ha with ⟨i, t, rfl, rfl⟩ | ⟨x, t, rfl, rfl⟩
  ·rcases keyIs_shape hb with ⟨j, u, rfl, e⟩ | ⟨y, u, rfl, e⟩
   ·injection e with e1 _; rw [e1]
   ·exact nomatch e
  ·rcases keyIs_shape hb with ⟨j, u, rfl, e⟩ | ⟨y, u, rfl, e⟩
   ·exact nomatch e
   ·injection e with e1 _; rw [e1]
 byValue := fun k v h => by
  rcases keyIs_shape h with ⟨i, t, rfl, rfl⟩ | ⟨x, t, rfl, rfl⟩ <;> rfl
 pyHash := fun hv h => by
  rcases keyIs_shape hv with ⟨i, t, rfl, rfl⟩ | ⟨x, t, rfl, rfl⟩
  ·exact wpAny_pyHash_int h
  ·exact wpAny_pyHash_str h
 eqBool := fun hu hv h => by
  rcases keyIs_shape hu with ⟨i, t, rfl, rfl⟩ | ⟨x, t, rfl, rfl⟩
  ·rcases keyIs_shape hv with ⟨j, u, rfl, rfl⟩ | ⟨y, u, rfl, rfl⟩
   ·rw [key_ll] at h; exact wpAny_eqBool_int h
   ·rw [key_lr] at h; exact SeqAt.EqAt.int_str i t y u _ _ _ _ h
  ·rcases keyIs_shape hv with ⟨j, u, rfl, rfl⟩ | ⟨y, u, rfl, rfl⟩
   ·rw [key_rl] at h; exact SeqAt.EqAt.str_int x t j u _ _ _ _ h
   ·rw [key_rr] at h; exact wpAny_eqBool_str h
 «strs» := fun k x t v h => by
  rcases keyIs_shape h with ⟨i, u, rfl, e⟩ | ⟨y, u, rfl, e⟩
  ·exact nomatch e
  ·injection e with e1 _
   subst e1
   cases v <;> rfl
theorem mixKind_int (prog : Program) (w : World) (i : Int) (t : Tok) : (mixKind prog w).is (.inl i) (.int i t) = true := keyIs_int i t
theorem mixKind_str (prog : Program) (w : World) (x : Str) (t : Tok) : (mixKind prog w).is (.inr x) (.str x t) = true := keyIs_str x t
end L2
namespace L2
open PySem PySem.Spec PyProof.Rows
inductive V where
 | non | bl (b : Bool) | int (i : Int) | str (x : Str) | byt (b : Array UInt8) | flt (b : UInt64) | ref (a : Addr) | ty (n : String)
 deriving DecidableEq
noncomputable def RelV : V -> Value -> Prop
 | .non, u => u = Value.none
 | .bl b, u => u = Value.bool b
 | .int i, u => ∃ t, u = Value.int i t
 | .str x, u => ∃ t, u = Value.str x t
 | .byt b, u => ∃ t, u = Value.bytes b t
 | .flt b, u => ∃ t, u = Value.float b t
 | .ref a, u => u = Value.ref a
 | .ty n, u => u = Value.type n
noncomputable abbrev Vals : List V -> List Value -> Prop := Paired RelV
theorem Vals.length {xs : List V} {us : List Value} (r : Vals xs us) : xs.length = us.length := Paired.length r
theorem Vals.get : ∀ {xs : List V} {us : List Value} {i : Nat} {x : V}, Vals xs us -> xs[i]? = some x -> ∃ u, us[i]? = some u /\ RelV x u
 | _, _, _, _, .nil, e => by simp at e
 | _, _, 0, _, .cons r _, e => by simp at e; subst e; exact ⟨_, rfl, r⟩
 | _, _, i + 1, x, .cons _ t, e => by
  obtain ⟨u, h1, h2⟩ := Vals.get (i := i) (x := x) t (by simpa using e)
  exact ⟨u, by simpa using h1, h2⟩
theorem Vals.set {x : V} {u : Value} (r : RelV x u) : ∀ {xs : List V} {us : List Value} (i : Nat), Vals xs us -> Vals (xs.set i x) (us.set i u)
 | _, _, _, .nil => .nil
 | _, _, 0, .cons _ t => .cons r t
 | _, _, i + 1, .cons q t => .cons q (Vals.set r i t)
theorem Vals.append : ∀ {xs ys : List V} {us ws : List Value}, Vals xs us -> Vals ys ws -> Vals (xs ++ ys) (us ++ ws)
 | _, _, _, _, .nil, s => s
 | _, _, _, _, .cons r t, s => .cons r (Vals.append t s)
theorem Vals.take : ∀ {xs : List V} {us : List Value} (n : Nat), Vals xs us -> Vals (xs.take n) (us.take n)
 | _, _, 0, _ => .nil
 | _, _, _ + 1, .nil => .nil
 | _, _, n + 1, .cons r t => .cons r (Vals.take n t)
theorem Vals.drop : ∀ {xs : List V} {us : List Value} (n : Nat), Vals xs us -> Vals (xs.drop n) (us.drop n)
 | _, _, 0, r => r
 | _, _, _ + 1, .nil => .nil
 | _, _, n + 1, .cons _ t => Vals.drop n t
noncomputable def RelO : Option V -> Option Value -> Prop
 | some v, some u => RelV v u
 | none, none => True
 | _, _ => False
noncomputable def KV {κ : Type} : List (κ × V) -> List (κ × Value) -> Prop := Paired fun (p : κ × V) (q : κ × Value) => p.1 = q.1 /\ RelV p.2 q.2
noncomputable def kV : Key -> V
 | .inl i => .int i
 | .inr x => .str x
inductive HO where
 /-- a list -/
 | lst (xs : List V)
 /-- a tuple (never changes) -/
 | tup (xs : List V)
 /-- a dict whose keys are ints and texts; one whose keys are tuples of ints and texts (the empty one is both) -/
 | dK (kvs : List (Key × V)) | dT (kvs : List (List Key × V))
 /-- a set of ints: its members, its size -/
 | set (S : Int -> Bool) (n : Nat)
 /-- an instance of the class at C, its dict at dx, its attributes -/
 | ins (C dx : Addr) (fs : List (Str × V))
 /-- the dict of the instance at x -/
 | own (x : Addr)
 /-- the dict of an exception -/
 | xd (fs : List (Str × V))
 /-- a bound method, f of x -/
 | met (f x : Addr)
 /-- a range object lo, lo + 1, .. below hi -/
 | rng (lo hi : Int)
 /-- a thing that is known to the object (the script; a dict while a loop walks it): read, never written while it is so -/
 | frz (o : Obj) (u : HO)
 /-- a code object's table -/
 | tbl (ps : Array Value)
 /-- any other thing, by what is true of its one object (a def of one's own: SetO a S n := HO.ext fun h => ..) -/
 | ext (φ : Heap -> Prop)
noncomputable abbrev Hp := Addr -> Option HO
noncomputable def upd (H : Hp) (a : Addr) (o : HO) : Hp := fun b => if b = a then some o else H b
theorem upd_same {H : Hp} {a : Addr} {o : HO} : upd H a o a = some o := by unfold upd; rw [if_pos rfl]
theorem upd_ne {H : Hp} {a b : Addr} {o : HO} (h : b ≠ a) : upd H a o b = H b := by unfold upd; rw [if_neg h]
theorem upd_upd {H : Hp} {a : Addr} {o u : HO} : upd (upd H a o) a u = upd H a u := by
 funext b; unfold upd; split <;> rfl
theorem ne_of {H : Hp} {a b : Addr} {o u : HO} (h : H a = some o) (h' : H b = some u) (d : o ≠ u) : a ≠ b := by
 intro e; subst e; rw [h] at h'; exact d (Option.some.inj h')
theorem ne_of_none {H : Hp} {a b : Addr} {o : HO} (h : H a = some o) (h' : H b = none) : a ≠ b := by
 intro e; subst e; rw [h] at h'; cases h'
section
variable (P : Program) (w : World)
noncomputable def ObjOk (H : Hp) (h : Heap) (a : Addr) : HO -> Prop
 | .lst xs => xs.length <= sizeLine /\ ∃ (its : List Value) (n : Nat), Vals xs its /\ h.get? a = some { cls := .type "list", data := .seq its.toArray n }
 | .tup xs => xs.length <= sizeLine /\ ∃ its : List Value, Vals xs its /\ IsTup h a its.toArray
 | .dK kvs => kvs.length <= sizeLine /\ (a == sysModules) = false /\ ∃ vs, KV kvs vs /\ h.DictOf (mixKind P w) a vs
 | .dT kvs => kvs.length <= sizeLine /\ (a == sysModules) = false /\ ∃ xs : List (List Key × Addr × Value),
   Paired (fun (p : List Key × V) (q : List Key × Addr × Value) => p.1 = q.1 /\ H q.2.1 = some (.tup (p.1.map kV)) /\ RelV p.2 q.2.2) kvs xs ∧
   ∃ o es ep, h.get? a = some o /\ o.ExactDict /\ o.data = .dict es ep /\ es.toList = xs.map (entryOfKey (tupleKind (mixKind P w))) /\ (xs.map (·.1)).Nodup
 | .set S n => h.SetOf (intKind P w) a S n
 | .ins C dx fs => H dx = some (.own a) /\ fs.length <= 1000 /\ dx ≠ a /\ h.get? a = some (PySem.W.instObj C dx) ∧
   ∃ mA, h.Ns1 dx mA /\ (∀ f, RelO (fs.lookup f) (mA f)) /\ PySem.Within mA (fs.map (·.1))
 | .own _ => ∃ o, h.get? a = some o
 | .xd fs => ∃ mA, h.Ns1 a mA /\ ∀ f, RelO (fs.lookup f) (mA f)
 | .rng lo hi => ∃ t u v, h.get? a = some { cls := .type "range", data := .fields #[.int lo t, .int hi u, .int 1 v] }
 | .frz o u => h.get? a = some o /\ ObjOk H h a u
 | .tbl ps => h.get? a = some { cls := .none, data := .fields ps }
 | .met f x => h.get? a = some (PySem.W.methodObj (.ref f) (.ref x))
 | .ext φ => φ h /\ (∃ o, h.get? a = some o) /\ ∀ h1 h2 : Heap, φ h1 -> (∀ o, h1.get? a = some o -> h2.get? a = some o) -> φ h2
noncomputable def HOk (H : Hp) (h : Heap) : Prop := ∀ a o, H a = some o -> ObjOk P w H h a o
end
section
variable {P : Program} {w : World} {H H' : Hp} {h h' : Heap} {a : Addr} {o : HO}
theorem ObjOk.lt (x : ObjOk P w H h a o) : a < h.objs.size := by
 cases o with
 | lst xs => obtain ⟨_, _, _, _, e⟩ := x; exact Heap.lt_size e
 | tup xs => obtain ⟨_, _, _, p⟩ := x; exact p.lt
 | dK kvs => obtain ⟨_, _, _, _, o, _, _, e, _⟩ := x; exact Heap.lt_size e
 | dT kvs => obtain ⟨_, _, _, _, o, _, _, e, _⟩ := x; exact Heap.lt_size e
 | set S n => obtain ⟨o, _, _, _, e, _⟩ := x; exact Heap.lt_size e
 | ins C dx fs => obtain ⟨_, _, _, e, _⟩ := x; exact Heap.lt_size e
 | own y => obtain ⟨_, e⟩ := x; exact Heap.lt_size e
 | xd fs => obtain ⟨_, ⟨_, _, _, e, _⟩, _⟩ := x; exact Heap.lt_size e
 | rng lo hi => obtain ⟨_, _, _, e⟩ := x; exact Heap.lt_size e
 | frz ob u => obtain ⟨e, _⟩ := x; exact Heap.lt_size e
 | tbl ps => exact Heap.lt_size (show h.get? a = some _ from x)
 | met f y => exact Heap.lt_size (show h.get? a = some _ from x)
 | ext φ => obtain ⟨_, ⟨_, e⟩, _⟩ := x; exact Heap.lt_size e
theorem Paired.mapP {α β : Type} {F G : α -> β -> Prop} : ∀ {l₁ : List α} {l₂ : List β}, Paired F l₁ l₂ -> (∀ a b, F a b -> G a b) -> Paired G l₁ l₂
 | _, _, .nil, _ => .nil
 | _, _, .cons r t, f => .cons (f _ _ r) (Paired.mapP t f)
theorem ObjOk.stay (x : ObjOk P w H h a o) (k : ∀ b u, (b = a \/ H b = some (.own a)) -> h.get? b = some u -> h'.get? b = some u)
  (ho : ∀ b, H b = some (.own a) -> H' b = some (.own a)) (ht : ∀ b xs, H b = some (.tup xs) -> H' b = some (.tup xs)) : ObjOk P w H' h' a o := by
 induction o with
 | lst xs => obtain ⟨z, its, n, r, e⟩ := x; exact ⟨z, its, n, r, k _ _ (.inl rfl) e⟩
 | tup xs => obtain ⟨z, its, r, ob, e, c⟩ := x; exact ⟨z, its, r, ob, k _ _ (.inl rfl) e, c⟩
 | dK kvs => obtain ⟨z, y, vs, r, ob, es, ep, e, c⟩ := x; exact ⟨z, y, vs, r, ob, es, ep, k _ _ (.inl rfl) e, c⟩
 | dT kvs =>
  refine gz9 fun _ bk0 => ?_
  obtain ⟨z, y, xs, r, ob, es, ep, e, c⟩ := x
  refine bk0 ?_
  exact ⟨z, y, xs, Paired.mapP r fun p q z => ⟨z.1, ht _ _ z.2.1, z.2.2⟩, ob, es, ep, k _ _ (.inl rfl) e, c⟩
 | set S n => obtain ⟨ob, es, ep, t, e, c⟩ := x; exact ⟨ob, es, ep, t, k _ _ (.inl rfl) e, c⟩
 | ins C dx fs =>
  refine gz9 fun _ bk0 => ?_
  obtain ⟨d, z, ne, e, mA, ⟨od, es, ep, e2, c⟩, r⟩ := x
  refine bk0 ?_
  exact ⟨ho _ d, z, ne, k _ _ (.inl rfl) e, mA, ⟨od, es, ep, k _ _ (.inr d) e2, c⟩, r⟩
 | own y => obtain ⟨ob, e⟩ := x; exact ⟨ob, k _ _ (.inl rfl) e⟩
 | xd fs => obtain ⟨mA, ⟨od, es, ep, e, c⟩, r⟩ := x; exact ⟨mA, ⟨od, es, ep, k _ _ (.inl rfl) e, c⟩, r⟩
 | rng lo hi => obtain ⟨t, u, v, e⟩ := x; exact ⟨t, u, v, k _ _ (.inl rfl) e⟩
 | frz ob u ih => obtain ⟨e, q⟩ := x; exact ⟨k _ _ (.inl rfl) e, ih q⟩
 | tbl ps =>
  have e : h.get? a = some { cls := .none, data := .fields ps } := x
  show h'.get? a = some { cls := .none, data := .fields ps }
  exact k a _ (.inl rfl) e
 | met f y =>
  have e : h.get? a = some (PySem.W.methodObj (.ref f) (.ref y)) := x
  show h'.get? a = some (PySem.W.methodObj (.ref f) (.ref y))
  exact k a _ (.inl rfl) e
 | ext φ => obtain ⟨p, ⟨o, e⟩, st⟩ := x; exact ⟨st _ _ p fun o q => k _ _ (.inl rfl) q, ⟨o, k _ _ (.inl rfl) e⟩, st⟩
theorem HOk.lt (x : HOk P w H h) (e : H a = some o) : a < h.objs.size := (x a o e).lt
theorem HOk.fresh (x : HOk P w H h) (e : h.objs.size <= a) : H a = none := by
 cases q : H a with
 | none => rfl
 | some u => exact absurd (Nat.lt_of_lt_of_le (x.lt q) e) (Nat.lt_irrefl _)
theorem HOk.kept (x : HOk P w H h) (k : ∀ b u, h.get? b = some u -> h'.get? b = some u) : HOk P w H h' := fun a o e =>
 (x a o e).stay (fun b u _ q => k b u q) (fun _ q => q) fun _ _ q => q
theorem HOk.laid (x : HOk P w H h) (k : ∀ b u, h.get? b = some u -> h'.get? b = some u) (hp : h.objs.size <= a) (new : ObjOk P w (upd H a o) h' a o) : HOk P w (upd H a o) h' := fun b u e => by
 have hn := x.fresh hp
 by_cases hb : b = a
 ·subst hb; rw [upd_same] at e; cases e; exact new
 ·rw [upd_ne hb] at e
  exact (x b u e).stay (fun c v _ q => k c v q) (fun c q => by rw [upd_ne (ne_of_none q hn)]; exact q) fun c xs q => by rw [upd_ne (ne_of_none q hn)]; exact q
end
noncomputable def Rd (H : Hp) (a : Addr) (u : HO) : Prop := H a = some u \/ ∃ o, H a = some (.frz o u)
theorem Rd.of {H : Hp} {a : Addr} {u : HO} (h : H a = some u) : Rd H a u := .inl h
theorem Rd.ok {P : Program} {w : World} {H : Hp} {h : Heap} {a : Addr} {u : HO} (r : Rd H a u) (x : HOk P w H h) : ObjOk P w H h a u := by
 rcases r with r | ⟨o, r⟩
 ·exact x a u r
 ·obtain ⟨_, q⟩ := x a _ r
  exact q
noncomputable def Mut : Option HO -> Prop
 | some (.lst _) => True
 | some (.dK _) => True
 | some (.dT _) => True
 | some (.set _ _) => True
 | some (.ins _ _ _) => True
 | some (.ext _) => True
 | _ => False
section
variable {P : Program} {w : World} {H : Hp} {h h' : Heap} {x e : Addr} {o' : HO}
theorem HOk.write (ok : HOk P w H h) (mu : Mut (H x)) (he : e = x \/ H e = some (.own x)) (k : ∀ b u, b ≠ e -> h.get? b = some u -> h'.get? b = some u) (heo : ∃ u, h'.get? e = some u)
  (new : ObjOk P w (upd H x o') h' x o') : HOk P w (upd H x o') h' := fun b u q => by
 have nown : ∀ c y, H c = some (.own y) -> c ≠ x := fun c y r z => by subst z; rw [r] at mu; exact mu
 have ntup : ∀ c xs, H c = some (.tup xs) -> c ≠ x := fun c xs r z => by subst z; rw [r] at mu; exact mu
 by_cases hb : b = x
 ·subst hb; rw [upd_same] at q; cases q; exact new
 ·rw [upd_ne hb] at q
  by_cases hbe : b = e
  ·have q' : H b = some (.own x) := by
    rcases he with z | z
    ·exact absurd (hbe.trans z) hb
    ·rw [hbe]; exact z
   rw [q] at q'; cases q'
   obtain ⟨v, hv⟩ := heo
   exact ⟨v, by rw [hbe]; exact hv⟩
  ·refine (ok b u q).stay (fun c v hc r => k c v ?_ r) (fun c r => by rw [upd_ne (nown c b r)]; exact r) fun c xs r => by rw [upd_ne (ntup c xs r)]; exact r
   rcases hc with rfl | hc
   ·exact hbe
   ·rintro rfl
    rcases he with z | z
    ·exact nown c b hc z
    ·rw [hc] at z; cases z; exact hb rfl
end
structure Un (fs ex : List Addr) (H H' : Hp) (h h' : Heap) : Prop where
 keep : ∀ b o, h.get? b = some o -> H b = none -> b ∉ fs -> b ∉ ex -> h'.get? b = some o
 slot : ∀ b o, h.get? b = some o -> H b = none -> b ∈ fs -> b ∉ ex -> ∃ sl, h'.get? b = some { o with slots := sl }
 free : ∀ b o, h.get? b = some o -> H b = none -> b ∉ ex -> H' b = none
 there : ∀ b o, h.get? b = some o -> b ∉ ex -> ∃ o', h'.get? b = some o'
 tups : ∀ b xs, H b = some (.tup xs) -> H' b = some (.tup xs)
 frzs : ∀ b o u, H b = some (.frz o u) -> H' b = some (.frz o u)
 tbls : ∀ b ps, H b = some (.tbl ps) -> ∃ more, H' b = some (.tbl (ps ++ more))
section
variable {fs fs' ex ex' : List Addr} {H H1 H2 : Hp} {h h1 h2 h' : Heap} {a x e : Addr} {o : HO}
theorem Un.any (u : Un fs ex H H1 h h1) {b : Addr} {ob : Obj} (q : h.get? b = some ob) (n : H b = none) (hx : b ∉ ex) : ∃ sl, h1.get? b = some { ob with slots := sl } := by
 by_cases hb : b ∈ fs
 ·exact u.slot b ob q n hb hx
 ·exact ⟨ob.slots, u.keep b ob q n hb hx⟩
theorem Un.kept (k : ∀ b u, h.get? b = some u -> h'.get? b = some u) : Un fs ex H H h h' :=
 ⟨fun b ob q _ _ _ => k b ob q, fun b ob q _ _ _ => ⟨ob.slots, k b ob q⟩, fun _ _ _ n _ => n, fun b ob q _ => ⟨ob, k b ob q⟩, fun _ _ q => q, fun _ _ _ q => q, fun _ ps q => ⟨#[], by rw [q]; simp⟩⟩
theorem Un.refl : Un fs ex H H h h := Un.kept fun _ _ q => q
theorem Un.laid (k : ∀ b u, h.get? b = some u -> h'.get? b = some u) (hp : h.objs.size <= a) (hn : H a = none) : Un fs ex H (upd H a o) h h' where
 keep := fun b u q _ _ _ => k b u q
 slot := fun b u q _ _ _ => ⟨u.slots, k b u q⟩
 free := fun b u q n _ => by rw [upd_ne (Nat.ne_of_lt (Nat.lt_of_lt_of_le (Heap.lt_size q) hp))]; exact n
 there := fun b u q _ => ⟨u, k b u q⟩
 tups := fun b xs q => by rw [upd_ne (ne_of_none q hn)]; exact q
 frzs := fun b u xs q => by rw [upd_ne (ne_of_none q hn)]; exact q
 tbls := fun b ps q => ⟨#[], by rw [upd_ne (ne_of_none q hn), q]; simp⟩
theorem Un.write (mu : Mut (H x)) (he : e = x \/ H e = some (.own x)) (k : ∀ b u, b ≠ e -> h.get? b = some u -> h'.get? b = some u) (heo : ∃ u, h'.get? e = some u) : Un fs ex H (upd H x o) h h' := by
 have hx : ∀ b, H b = none -> b ≠ x := fun b n z => by subst z; rw [n] at mu; exact mu
 have hb : ∀ b, H b = none -> b ≠ e := fun b n z => by
  subst z
  rcases he with r | r
  ·exact hx b n r
  ·rw [n] at r; cases r
 have hm : ∀ b u, H b = some u -> ¬ Mut (some u) -> b ≠ x := fun b u q nm z => by subst z; rw [q] at mu; exact nm mu
 refine ⟨fun b u q n _ _ => k b u (hb b n) q, fun b u q n _ _ => ⟨u.slots, k b u (hb b n) q⟩, fun b u q n _ => by rw [upd_ne (hx b n)]; exact n, fun b u q _ => ?_,
  fun b xs q => by rw [upd_ne (hm b _ q fun z => z)]; exact q, fun b u xs q => by rw [upd_ne (hm b _ q fun z => z)]; exact q, fun b ps q => ⟨#[], by rw [upd_ne (hm b _ q fun z => z), q]; simp⟩⟩
 by_cases hbe : b = e
 ·subst hbe; exact heo
 ·exact ⟨u, k b u hbe q⟩
end
noncomputable def trk (h : Heap) (H : Hp) : List Addr := (List.range h.objs.size).filter fun a => (H a).isSome
noncomputable def hidT (h : Heap) (H : Hp) : Heap := PySem.W.hideAll h (trk h H)
theorem hidT_size (h : Heap) (H : Hp) : (hidT h H).objs.size = h.objs.size := PySem.W.hideAll_size _ _
theorem hidT_get {h : Heap} {H : Hp} {b : Addr} {o : Obj} (e : h.get? b = some o) (n : H b = none) : (hidT h H).get? b = some o :=
 PySem.W.hideAll_get _ e fun hm => by
  have q : (H b).isSome = true := (List.mem_filter.mp hm).2
  rw [n] at q; simp at q
theorem of_hidT {h : Heap} {H : Hp} {b : Addr} {o : Obj} (e : (hidT h H).get? b = some o) : h.get? b = some o /\ H b = none := by
 have e' : h.get? b = some o := PySem.W.of_hideAll (trk h H) e
 refine ⟨e', ?_⟩
 cases q : H b with
 | none => rfl
 | some x =>
  have hm : b ∈ trk h H := List.mem_filter.mpr ⟨List.mem_range.mpr (Heap.lt_size e'), by simp [q]⟩
  have z : (hidT h H).get? b = none := PySem.W.hideAll_none (trk h H) hm
  rw [z] at e; cases e
noncomputable def allNews (g h : Heap) (L : Addr) : List (Addr × Obj) := (List.range h.objs.size).filterMap fun a => if a = L \/ (g.get? a).isSome = true then none else (h.get? a).map fun o => (a, o)
noncomputable def rest (g h : Heap) (L d : Addr) : List (Addr × Obj) := (allNews g h L).filter fun p => decide (p.1 ≠ d)
end L2
namespace L2
open PySem PySem.Spec PyProof.Rows
structure Mod (K : W.Frag) (mg : Str -> Option Value) (base : Heap) : Prop where
 kin : K.In base
 glob : base.Ns mainGlobals mg
 blt : ∃ mb, base.Ns builtinsNs mb /\ ∀ x : Str, x ≠ "__name__" -> mb x = bootBuiltins x
 nolimit : base.NoLimit
structure Cx where
 prog : Program
 w : World
 K : PySem.W.Frag
 mg : Str -> Option Value
 base : Heap
 A : Around
 N : List Str
 s₀ : Shared
 H₀ : Hp
 env : Env
 outer : List Env
 stack : List Env
 ex : List Addr
 fn : Str -> Bool
 calm : Bool
 pn : List (Addr × Obj)
 xe : Value -> Shared -> Prop
noncomputable def frs (l : List Env) : List Addr := l.filterMap (·.frame)
noncomputable abbrev Cx.fs (X : Cx) : List Addr := frs X.outer
noncomputable def Vis (sc : Scope) (x : Str) : Prop := sc.names.lookup x = some .local \/ sc.names.lookup x = some .cell \/ sc.names.lookup x = some .free
noncomputable def Loc (sc : Scope) (x : Str) : Prop := sc.names.lookup x = some .local \/ sc.names.lookup x = some .cell
noncomputable def Look (env : Env) (h : Heap) (m : Str -> Option Value) (x : Str) (u : Value) : Prop :=
 (env.kindOf x = some .local /\ m x = some u) \/ ((env.kindOf x = some .cell \/ env.kindOf x = some .free) /\ ∃ c, env.cells.lookup x = some c /\ h.IsCell c (some u))
structure Cx.Ok (X : Cx) : Prop where
 mod : Mod X.K X.mg X.base
 kind : X.env.scope.kind = .function
 glob : X.env.globals = mainGlobals
 blt : X.env.builtins = builtinsNs
 above : X.s₀.heap.objs.size <= X.env.locals
 inj : ∀ x y c, X.env.cells.lookup x = some c -> X.env.cells.lookup y = some c -> x = y
 has : ∀ x, (X.env.kindOf x = some .cell \/ X.env.kindOf x = some .free) -> ∃ c, X.env.cells.lookup x = some c
 cab : ∀ x c, X.fn x = true -> X.env.cells.lookup x = some c -> X.s₀.heap.objs.size <= c
 hd : X.calm = true -> X.A.handled = none
 frames : X.A.frames = some X.stack
 stk : X.stack = X.outer \/ (X.stack = X.env :: X.outer /\ X.env.frame = some X.env.locals)
 exf : ∀ b ∈ X.ex, b ≠ X.env.locals /\ ∀ x c, X.env.cells.lookup x = some c -> c ≠ b
 bs : ∀ b o, X.base.get? b = some o -> X.s₀.heap.get? b = some o /\ X.H₀ b = none
 bsz : X.base.objs.size <= X.s₀.heap.objs.size
 noex : ∀ b o, X.base.get? b = some o -> b ∉ X.ex
 exfs : ∀ b ∈ X.ex, b ∉ X.fs
 funs : X.s₀.heap.FunFrames X.base X.outer
 frf : ∀ b ∈ X.fs, X.H₀ b = none
structure Inv (X : Cx) (pins : List (Addr × Obj)) (σ : List (Option V)) (H : Hp) (s : Shared) : Prop where
 ok : X.Ok
 os : s.os = X.s₀.os
 bare : AllBare s.gens
 base : Un X.fs X.ex X.H₀ H X.s₀.heap s.heap
 loc : ∃ m, s.heap.Ns X.env.locals m /\ ∀ (i : Nat) (x : Str) (v : V), X.N[i]? = some x -> σ[i]? = some (some v) -> Vis X.env.scope x -> ∃ u, RelV v u /\ Look X.env s.heap m x u
 cell : ∀ x c, X.env.cells.lookup x = some c -> ∃ v, s.heap.IsCell c v
 free : H X.env.locals = none
 freeC : ∀ x c, X.env.cells.lookup x = some c -> H c = none
 pin : ∀ p ∈ X.pn ++ pins, s.heap.get? p.1 = some p.2 /\ H p.1 = none /\ p.1 ≠ X.env.locals /\ p.1 ∉ X.fs /\ ∀ v, p.2.data ≠ .cell v
 hok : HOk X.prog X.w H s.heap
 len : σ.length = X.N.length
section
variable {X : Cx} {pins : List (Addr × Obj)} {σ : List (Option V)} {H H' : Hp} {s : Shared} {h' : Heap}
theorem Cx.Ok.nofr (ok : X.Ok) {b : Addr} {o : Obj} (e : X.base.get? b = some o) : b ∉ X.fs := fun hb => by
 have := (ok.funs.mem hb).1
 rw [e] at this; cases this
theorem Inv.bs (I : Inv X pins σ H s) : ∀ b o, X.base.get? b = some o -> s.heap.get? b = some o /\ H b = none := fun b o e =>
 ⟨I.base.keep b o (I.ok.bs b o e).1 (I.ok.bs b o e).2 (I.ok.nofr e) (I.ok.noex b o e), I.base.free b o (I.ok.bs b o e).1 (I.ok.bs b o e).2 (I.ok.noex b o e)⟩
theorem Inv.bk (I : Inv X pins σ H s) : ∀ b o, X.base.get? b = some o -> s.heap.get? b = some o := fun b o e => (I.bs b o e).1
theorem Inv.mod (I : Inv X pins σ H s) : Mod X.K X.mg X.base := I.ok.mod
theorem Inv.kIn (I : Inv X pins σ H s) : X.K.In s.heap := I.ok.mod.kin.keeps I.bk
theorem Inv.lt (I : Inv X pins σ H s) : X.env.locals < s.heap.objs.size := let ⟨_, hn, _⟩ := I.loc; hn.lt
theorem Inv.sz (I : Inv X pins σ H s) : X.s₀.heap.objs.size <= s.heap.objs.size := Nat.le_trans I.ok.above (Nat.le_of_lt I.lt)
theorem Inv.nofs (I : Inv X pins σ H s) {a : Addr} (h : s.heap.objs.size <= a) : a ∉ X.fs := fun hb => by
 refine gz9 fun _ bk0 => ?_
 obtain ⟨_, o, ho, _⟩ := I.ok.funs.mem hb
 refine bk0 ?_
 exact absurd (Nat.lt_of_lt_of_le (Heap.lt_size ho) (Nat.le_trans I.sz h)) (Nat.lt_irrefl _)
theorem Inv.cne (I : Inv X pins σ H s) : ∀ x c, X.env.cells.lookup x = some c -> c ≠ X.env.locals := fun x c e z => by
 refine gz9 fun _ bk0 => ?_
 obtain ⟨v, o, ho, hd⟩ := I.cell x c e
 obtain ⟨m, ⟨o', es, ep, ho', hd', _⟩, _⟩ := I.loc
 refine bk0 ?_
 rw [z, ho'] at ho; cases ho; rw [hd'] at hd; cases hd
theorem Inv.funs (I : Inv X pins σ H s) : s.heap.FunFrames X.base X.outer := by
 have all : ∀ (l : List Env), (∀ b ∈ frs l, b ∈ X.fs) -> X.s₀.heap.FunFrames X.base l -> s.heap.FunFrames X.base l := by
  intro l
  induction l with
  | nil => intro _ _; trivial
  | cons env r ih =>
   intro hs hl
   refine gz9 fun _ bk0 => ?_
   obtain ⟨hk, ⟨L, o, hf, hn, ho, hd⟩, hr⟩ := hl
   have hL : L ∈ X.fs := hs L (by unfold frs; rw [List.filterMap_cons, hf]; exact List.mem_cons_self)
   obtain ⟨sl, e⟩ := I.base.slot L o ho (I.ok.frf L hL) hL fun z => I.ok.exfs L z hL
   refine bk0 ?_
   exact ⟨hk, ⟨L, _, hf, hn, e, hd⟩, ih (fun b hb => hs b (by unfold frs; rw [List.filterMap_cons, hf]; exact List.mem_cons_of_mem _ hb)) hr⟩
 exact all X.outer (fun _ hb => hb) I.ok.funs
theorem Inv.stack (I : Inv X pins σ H s) : s.heap.FunFrames X.base X.stack := by
 rcases I.ok.stk with e | ⟨e, hf⟩
 ·rw [e]; exact I.funs
 ·rw [e]
  obtain ⟨m, hn, _⟩ := I.loc
  refine .cons (by rw [I.ok.kind]; decide) hf hn ?_ I.funs
  exact Heap.get?_none_of_le (Nat.le_trans I.ok.bsz I.ok.above)
theorem Inv.stkSub (I : Inv X pins σ H s) : ∀ b ∈ frs X.stack, b ∈ X.env.locals :: X.fs := fun b hb => by
 rcases I.ok.stk with e | ⟨e, hf⟩
 ·rw [e] at hb; exact List.mem_cons_of_mem _ hb
 ·rw [e] at hb
  unfold frs at hb
  rw [List.filterMap_cons, hf] at hb
  exact hb
theorem Inv.stkFree (I : Inv X pins σ H s) : ∀ b ∈ frs X.stack, H b = none := fun b hb => by
 rcases List.mem_cons.mp (I.stkSub b hb) with e | hb
 ·rw [e]; exact I.free
 ·obtain ⟨_, o, ho, _⟩ := I.ok.funs.mem hb
  exact I.base.free b o ho (I.ok.frf b hb) fun z => I.ok.exfs b z hb
theorem Inv.step {g' : Array GenState} {t' : Nat} {d' : Drawn} {ch : List Addr} (I : Inv X pins σ H s)
  (hch : ∀ b ∈ ch, (b ∈ X.ex \/ X.s₀.heap.objs.size <= b) /\ b ≠ X.env.locals /\ (∀ x c, X.env.cells.lookup x = some c -> c ≠ b) /\ ∀ p ∈ X.pn ++ pins, p.1 ≠ b)
  (keep : ∀ b o, b ≠ X.env.locals -> b ∉ X.fs -> b ∉ ch -> s.heap.get? b = some o -> H b = none -> h'.get? b = some o)
  (slot : ∀ b o, b ≠ X.env.locals -> b ∈ X.fs -> b ∉ ch -> s.heap.get? b = some o -> H b = none -> ∃ sl, h'.get? b = some { o with slots := sl }) (free : ∀ b o, b ∉ ch -> s.heap.get? b = some o -> H b = none -> H' b = none)
  (there : ∀ b o, b ∉ ch -> s.heap.get? b = some o -> ∃ o', h'.get? b = some o')
  (tups : ∀ b xs, H b = some (.tup xs) -> H' b = some (.tup xs)) (frzs : ∀ b o u, H b = some (.frz o u) -> H' b = some (.frz o u)) (tbls : ∀ b ps, H b = some (.tbl ps) -> ∃ more, H' b = some (.tbl (ps ++ more)))
  (ns : ∀ m, s.heap.Ns X.env.locals m -> h'.Ns X.env.locals m) (hok : HOk X.prog X.w H' h') (hg : AllBare g') :
  Inv X pins σ H' { s with heap := h', gens := g', drawn := d', toks := t' } := by
 have neL : ∀ b o, X.s₀.heap.get? b = some o -> b ≠ X.env.locals := fun b o e => Nat.ne_of_lt (Nat.lt_of_lt_of_le (Heap.lt_size e) I.ok.above)
 have neC : ∀ b o, X.s₀.heap.get? b = some o -> b ∉ X.ex -> b ∉ ch := fun b o e hx hb => by
  rcases (hch b hb).1 with z | z
  ·exact hx z
  ·exact absurd (Nat.lt_of_lt_of_le (Heap.lt_size e) z) (Nat.lt_irrefl _)
 have cellK : ∀ x c, X.env.cells.lookup x = some c -> ∀ v, s.heap.IsCell c v -> h'.IsCell c v := fun x c e v ⟨o, ho, hd⟩ => by
  have nch : c ∉ ch := fun z => (hch c z).2.2.1 x c e rfl
  by_cases hc : c ∈ X.fs
  ·obtain ⟨sl, q⟩ := slot c o (I.cne x c e) hc nch ho (I.freeC x c e)
   exact ⟨_, q, hd⟩
  ·exact ⟨o, keep c o (I.cne x c e) hc nch ho (I.freeC x c e), hd⟩
 refine ⟨I.ok, I.os, hg, ⟨fun b o e n hb hx => ?_, fun b o e n hb hx => ?_, fun b o e n hx => ?_, fun b o e hx => ?_, fun b xs e => tups b xs (I.base.tups b xs e), fun b o xs e => frzs b o xs (I.base.frzs b o xs e), fun b ps e => ?_⟩, ?_, fun x c e => ?_, ?_, fun x c e => ?_, fun p hp => ?_, hok, I.len⟩
 ·exact keep b o (neL b o e) hb (neC b o e hx) (I.base.keep b o e n hb hx) (I.base.free b o e n hx)
 ·obtain ⟨sl, e1⟩ := I.base.slot b o e n hb hx
  obtain ⟨sl', e2⟩ := slot b _ (neL b o e) hb (neC b o e hx) e1 (I.base.free b o e n hx)
  exact ⟨sl', e2⟩
 ·obtain ⟨o', e1⟩ := I.base.there b o e hx
  exact free b o' (neC b o e hx) e1 (I.base.free b o e n hx)
 ·obtain ⟨o', e1⟩ := I.base.there b o e hx
  exact there b o' (neC b o e hx) e1
 ·obtain ⟨m1, e1⟩ := I.base.tbls b ps e
  obtain ⟨m2, e2⟩ := tbls b _ e1
  exact ⟨m1 ++ m2, by rw [e2, Array.append_assoc]⟩
 ·obtain ⟨m, hn, hl⟩ := I.loc
  refine ⟨m, ns m hn, fun i x v e1 e2 e3 => ?_⟩
  obtain ⟨u, r, l⟩ := hl i x v e1 e2 e3
  refine ⟨u, r, ?_⟩
  rcases l with l | ⟨k, c, e, z⟩
  ·exact .inl l
  ·exact .inr ⟨k, c, e, cellK x c e _ z⟩
 ·obtain ⟨v, z⟩ := I.cell x c e
  exact ⟨v, cellK x c e v z⟩
 ·obtain ⟨m, ⟨o, _, _, ho, _⟩, _⟩ := I.loc
  exact free _ o (fun z => (hch _ z).2.1 rfl) ho I.free
 ·obtain ⟨v, o, ho, hd⟩ := I.cell x c e
  exact free c o (fun z => (hch c z).2.2.1 x c e rfl) ho (I.freeC x c e)
 ·obtain ⟨e, n, ne, nf, d⟩ := I.pin p hp
  have nch : p.1 ∉ ch := fun z => (hch p.1 z).2.2.2 p hp rfl
  exact ⟨keep p.1 p.2 ne nf nch e n, free p.1 p.2 nch e n, ne, nf, d⟩
theorem Inv.un {t' : Nat} (I : Inv X pins σ H s) (u : Un X.fs [] H H' s.heap h') (hok : HOk X.prog X.w H' h') : Inv X pins σ H' { s with heap := h', toks := t' } := by
 refine gz9 fun _ bk0 => ?_
 obtain ⟨m, ⟨o, es, ep, ho, r⟩, _⟩ := id I.loc
 obtain ⟨sl, hL⟩ := u.any ho I.free (by simp)
 refine bk0 ?_
 exact I.step (g' := s.gens) (d' := s.drawn) (ch := []) (fun _ z => nomatch z) (fun b o _ hb _ e n => u.keep b o e n hb (by simp)) (fun b o _ hb _ e n => u.slot b o e n hb (by simp)) (fun b o _ e n => u.free b o e n (by simp)) (fun b o _ e => u.there b o e (by simp)) u.tups u.frzs u.tbls (fun m' hm => by
  refine gz9 fun _ bk0 => ?_
  obtain ⟨o', es', ep', ho', r'⟩ := hm
  refine bk0 ?_
  rw [ho] at ho'; cases ho'
  exact ⟨_, es', ep', hL, r'⟩) hok I.bare
theorem Inv.call {g' : Array GenState} {t' : Nat} {d' : Drawn} {ch : List Addr} (I : Inv X pins σ H s) (u : Un (frs X.stack) ch H H' s.heap h') (hok : HOk X.prog X.w H' h') (hg : AllBare g')
  (hch : ∀ b ∈ ch, (b ∈ X.ex \/ X.s₀.heap.objs.size <= b) /\ b ≠ X.env.locals /\ (∀ x c, X.env.cells.lookup x = some c -> c ≠ b) /\ ∀ p ∈ X.pn ++ pins, p.1 ≠ b) :
  Inv X pins σ H' { s with heap := h', gens := g', drawn := d', toks := t' } := by
 refine gz9 fun _ bk0 => ?_
 obtain ⟨m, ⟨o, es, ep, ho, r⟩, _⟩ := id I.loc
 obtain ⟨sl, hL⟩ := u.any ho I.free fun z => (hch _ z).2.1 rfl
 refine bk0 ?_
 exact I.step (ch := ch) hch (fun b o hL hb hc e n => u.keep b o e n (fun z => (List.mem_cons.mp (I.stkSub b z)).elim hL hb) hc) (fun b o _ _ hc e n => u.any e n hc) (fun b o hc e n => u.free b o e n hc) (fun b o hc e => u.there b o e hc) u.tups u.frzs u.tbls (fun m' hm => by
  refine gz9 fun _ bk0 => ?_
  obtain ⟨o', es', ep', ho', r'⟩ := hm
  refine bk0 ?_
  rw [ho] at ho'; cases ho'
  exact ⟨_, es', ep', hL, r'⟩) hok hg
theorem Inv.turned {t' : Nat} {it : Addr} (I : Inv X pins σ H s) (k : ∀ b o, b ≠ it -> s.heap.get? b = some o -> h'.get? b = some o) (hn : H it = none) (hL : it ≠ X.env.locals)
  (h1 : it ∈ X.ex \/ X.s₀.heap.objs.size <= it) (h2 : ∀ x c, X.env.cells.lookup x = some c -> c ≠ it) (h3 : ∀ p ∈ X.pn ++ pins, p.1 ≠ it) : Inv X pins σ H { s with heap := h', toks := t' } := by
 have nit : ∀ b u, H b = some u -> b ≠ it := fun b u e z => by rw [z, hn] at e; cases e
 refine I.step (g' := s.gens) (d' := s.drawn) (ch := [it]) (fun b hb => ?_) (fun b o _ _ hc e _ => k b o (fun z => hc (by simp [z])) e) (fun b o _ _ hc e _ => ⟨o.slots, k b o (fun z => hc (by simp [z])) e⟩) (fun _ _ _ _ n => n)
  (fun b o hc e => ⟨o, k b o (fun z => hc (by simp [z])) e⟩) (fun _ _ e => e) (fun _ _ _ e => e) (fun b ps e => ⟨#[], by rw [e]; simp⟩) (fun m hm => ?_) (fun b u e => ?_) I.bare
 ·have e : b = it := by simpa using hb
  subst e
  exact ⟨h1, hL, h2, h3⟩
 ·obtain ⟨o, es, ep, ho, r⟩ := hm
  exact ⟨o, es, ep, k _ o (Ne.symm hL) ho, r⟩
 ·refine (I.hok b u e).stay (fun c v hc q => k c v ?_ q) (fun _ q => q) fun _ _ q => q
  rcases hc with z | z
  ·rw [z]; exact nit b u e
  ·exact nit c _ z
theorem Inv.tok (I : Inv X pins σ H s) (t : Nat) : Inv X pins σ H { s with toks := t } := I.un (h' := s.heap) (t' := t) Un.refl I.hok
theorem Inv.kept {t' : Nat} (I : Inv X pins σ H s) (k : ∀ b u, s.heap.get? b = some u -> h'.get? b = some u) : Inv X pins σ H { s with heap := h', toks := t' } := I.un (Un.kept k) (I.hok.kept k)
theorem Inv.laid {a : Addr} {o : HO} {t' : Nat} (I : Inv X pins σ H s) (k : ∀ b u, s.heap.get? b = some u -> h'.get? b = some u) (hp : s.heap.objs.size <= a) (new : ObjOk X.prog X.w (upd H a o) h' a o) :
  Inv X pins σ (upd H a o) { s with heap := h', toks := t' } := I.un (Un.laid k hp (I.hok.fresh hp)) (I.hok.laid k hp new)
theorem Inv.write {x e : Addr} {o : HO} {t' : Nat} (I : Inv X pins σ H s) (mu : Mut (H x)) (he : e = x \/ H e = some (.own x)) (k : ∀ b u, b ≠ e -> s.heap.get? b = some u -> h'.get? b = some u) (heo : ∃ u, h'.get? e = some u)
  (new : ObjOk X.prog X.w (upd H x o) h' x o) : Inv X pins σ (upd H x o) { s with heap := h', toks := t' } := I.un (Un.write mu he k heo) (I.hok.write mu he k heo new)
theorem Inv.pins_of {pins' : List (Addr × Obj)} (I : Inv X pins σ H s) (h : ∀ p ∈ pins', s.heap.get? p.1 = some p.2 /\ H p.1 = none /\ p.1 ≠ X.env.locals /\ p.1 ∉ X.fs /\ ∀ v, p.2.data ≠ .cell v) : Inv X pins' σ H s :=
 ⟨I.ok, I.os, I.bare, I.base, I.loc, I.cell, I.free, I.freeC, fun p hp => (List.mem_append.mp hp).elim (fun z => I.pin p (List.mem_append_left _ z)) (h p), I.hok, I.len⟩
theorem nodup_ix {N : List Str} (hN : N.Nodup) {i j : Nat} {x : Str} (a : N[i]? = some x) (b : N[j]? = some x) : i = j := by
 obtain ⟨h1, e1⟩ := List.getElem?_eq_some_iff.mp a
 obtain ⟨h2, e2⟩ := List.getElem?_eq_some_iff.mp b
 exact (List.getElem_inj hN).mp (e1.trans e2.symm)
theorem store_ok2 {M : Model} {A : Around} {E : Value -> Shared -> Prop} {i : Nat} {x : Str} {v : V} {u : Value} {Q : Unit -> Shared -> Prop} (I : Inv X pins σ H s) (hN : X.N.Nodup) (hi : X.N[i]? = some x) (hx : Loc X.env.scope x) (r : RelV v u)
  (h : ∀ s', Inv X pins (σ.set i (some v)) H s' -> (∃ a, Heap.SameBut a s.heap s'.heap /\ (a = X.env.locals \/ X.env.cells.lookup x = some a)) -> Q () s') (hf : X.fn x = true \/ X.env.scope.names.lookup x = some .local := by first | exact .inl rfl | exact .inr rfl | assumption) : wpAny M A (storeName X.env x u) Q E s := by
 obtain ⟨m, hn, hl⟩ := id I.loc
 have hcls : (X.env.scope.kind == .class || (X.env.scope.kind == .module && X.env.locals != X.env.globals)) = false := by rw [I.ok.kind]; rfl
 have hiσ : i < σ.length := by rw [I.len]; exact (List.getElem?_eq_some_iff.mp hi).1
 have cne := I.cne
 have tracked : ∀ {a : Addr} {h' : Heap}, (∃ o, s.heap.get? a = some o /\ H a = none) -> Heap.SameBut a s.heap h' -> HOk X.prog X.w H h' := fun {a h'} ha hs b ob e => by
  obtain ⟨_, _, hfree⟩ := ha
  refine (I.hok b ob e).stay (fun c w' hc q => (hs.2 c ?_).trans q) (fun _ q => q) fun _ _ q => q
  rintro rfl
  rcases hc with rfl | hc
  ·rw [hfree] at e; cases e
  ·rw [hfree] at hc; cases hc
 rcases hx with hk | hk
 ·refine wpAny_storeName_local hk hn (fun h' hn' hs => ?_) hcls
  refine gz9 fun _ bk0 => ?_
  obtain ⟨oL, _, _, hoL, _⟩ := id hn
  refine bk0 ?_
  refine h _ ⟨I.ok, I.os, I.bare, ⟨fun b o e n hb hx => ?_, fun b o e n hb hx => ?_, I.base.free, fun b o e hx => ?_, I.base.tups, I.base.frzs, I.base.tbls⟩, ⟨_, hn', fun j y v' e1 e2 e3 => ?_⟩, fun y c e => ?_, I.free, I.freeC, fun p hp => ?_, tracked ⟨oL, hoL, I.free⟩ hs, by simpa using I.len⟩ ⟨_, hs, .inl rfl⟩
  ·exact (hs.2 b (Nat.ne_of_lt (Nat.lt_of_lt_of_le (Heap.lt_size e) I.ok.above))).trans (I.base.keep b o e n hb hx)
  ·obtain ⟨sl, e1⟩ := I.base.slot b o e n hb hx
   exact ⟨sl, (hs.2 b (Nat.ne_of_lt (Nat.lt_of_lt_of_le (Heap.lt_size e) I.ok.above))).trans e1⟩
  ·obtain ⟨o', e1⟩ := I.base.there b o e hx
   exact ⟨o', (hs.2 b (Nat.ne_of_lt (Nat.lt_of_lt_of_le (Heap.lt_size e) I.ok.above))).trans e1⟩
  ·by_cases hj : j = i
   ·subst hj
    rw [hi] at e1; cases e1
    rw [List.getElem?_set_self hiσ] at e2
    cases e2
    exact ⟨u, r, .inl ⟨hk, by simp⟩⟩
   ·rw [List.getElem?_set_ne (Ne.symm hj)] at e2
    obtain ⟨u', r', q⟩ := hl j y v' e1 e2 e3
    refine ⟨u', r', ?_⟩
    rcases q with ⟨k, e⟩ | ⟨k, c, e, z⟩
    ·refine .inl ⟨k, ?_⟩
     have : y ≠ x := fun e => hj (nodup_ix hN e1 (e ▸ hi))
     simp [this, e]
    ·exact .inr ⟨k, c, e, z.sameBut hs (cne y c e)⟩
  ·obtain ⟨w', z⟩ := I.cell y c e
   exact ⟨w', z.sameBut hs (cne y c e)⟩
  ·obtain ⟨e, n, ne, nf, d⟩ := I.pin p hp
   exact ⟨(hs.2 p.1 ne).trans e, n, ne, nf, d⟩
 ·have hfn : X.fn x = true := by
   rcases hf with z | z
   ·exact z
   ·rw [z] at hk; cases hk
  obtain ⟨c, hc⟩ := I.ok.has x (.inl hk)
  obtain ⟨w', z⟩ := I.cell x c hc
  refine wpAny_storeName_cell I.ok.kind hk hc z (fun h' hc' hs => ?_)
  obtain ⟨oc, hoc, hocd⟩ := id z
  refine h { s with heap := h' } ⟨I.ok, I.os, I.bare, ⟨fun b o e n hb hx => ?_, fun b o e n hb hx => ?_, I.base.free, fun b o e hx => ?_, I.base.tups, I.base.frzs, I.base.tbls⟩, ⟨m, hn.sameBut hs (Ne.symm (cne x c hc)), fun j y v' e1 e2 e3 => ?_⟩, fun y c' e => ?_, I.free, I.freeC, fun p hp => ?_, tracked ⟨oc, hoc, I.freeC x c hc⟩ hs, by simpa using I.len⟩ ⟨c, hs, .inr hc⟩
  ·exact (hs.2 b (Nat.ne_of_lt (Nat.lt_of_lt_of_le (Heap.lt_size e) (I.ok.cab x c hfn hc)))).trans (I.base.keep b o e n hb hx)
  ·obtain ⟨sl, e1⟩ := I.base.slot b o e n hb hx
   exact ⟨sl, (hs.2 b (Nat.ne_of_lt (Nat.lt_of_lt_of_le (Heap.lt_size e) (I.ok.cab x c hfn hc)))).trans e1⟩
  ·obtain ⟨o', e1⟩ := I.base.there b o e hx
   exact ⟨o', (hs.2 b (Nat.ne_of_lt (Nat.lt_of_lt_of_le (Heap.lt_size e) (I.ok.cab x c hfn hc)))).trans e1⟩
  ·by_cases hj : j = i
   ·subst hj
    rw [hi] at e1; cases e1
    rw [List.getElem?_set_self hiσ] at e2
    cases e2
    exact ⟨u, r, .inr ⟨.inl hk, c, hc, hc'⟩⟩
   ·rw [List.getElem?_set_ne (Ne.symm hj)] at e2
    obtain ⟨u', r', q⟩ := hl j y v' e1 e2 e3
    refine ⟨u', r', ?_⟩
    rcases q with q | ⟨k, c', e, z'⟩
    ·exact .inl q
    ·refine .inr ⟨k, c', e, z'.sameBut hs ?_⟩
     rintro rfl
     exact hj (nodup_ix hN e1 (I.ok.inj _ _ _ e hc ▸ hi))
  ·by_cases hcc : c' = c
   ·subst hcc; exact ⟨_, hc'⟩
   ·obtain ⟨w2, z2⟩ := I.cell y c' e
    exact ⟨w2, z2.sameBut hs hcc⟩
  ·obtain ⟨e, n, ne, nf, d⟩ := I.pin p hp
   refine ⟨(hs.2 p.1 ?_).trans e, n, ne, nf, d⟩
   intro q
   rw [q, hoc] at e
   have q' : oc = p.2 := Option.some.inj e
   exact d w' (by rw [<- q']; exact hocd)
theorem store_ok {M : Model} {A : Around} {E : Value -> Shared -> Prop} {i : Nat} {x : Str} {v : V} {u : Value} {Q : Unit -> Shared -> Prop} (I : Inv X pins σ H s) (hN : X.N.Nodup) (hi : X.N[i]? = some x) (hx : Loc X.env.scope x) (r : RelV v u)
  (h : ∀ s', Inv X pins (σ.set i (some v)) H s' -> Q () s') (hf : X.fn x = true \/ X.env.scope.names.lookup x = some .local := by first | exact .inl rfl | exact .inr rfl | assumption) : wpAny M A (storeName X.env x u) Q E s :=
 store_ok2 I hN hi hx r (fun s' I' _ => h s' I') hf
theorem Inv.call' {s' : Shared} {ch : List Addr} (I : Inv X pins σ H s) (ho : s'.os = s.os) (u : Un (frs X.stack) ch H H' s.heap s'.heap) (hok : HOk X.prog X.w H' s'.heap) (hg : AllBare s'.gens)
  (hch : ∀ b ∈ ch, (b ∈ X.ex \/ X.s₀.heap.objs.size <= b) /\ b ≠ X.env.locals /\ (∀ x c, X.env.cells.lookup x = some c -> c ≠ b) /\ ∀ p ∈ X.pn ++ pins, p.1 ≠ b) : Inv X pins σ H' s' := by
 refine gz9 fun _ bk0 => ?_
 obtain ⟨h', g', d', t', o'⟩ := s'
 refine bk0 ?_
 have e : o' = s.os := ho
 subst e
 exact I.call (g' := g') (t' := t') (d' := d') u hok hg hch
end
noncomputable abbrev XK := Value -> Option Addr -> Hp -> Prop
noncomputable abbrev St := List (Option V)
noncomputable abbrev VK := V -> Hp -> Prop
noncomputable abbrev TE := St -> Hp -> VK -> Prop
noncomputable abbrev TT := St -> Hp -> (Bool -> Hp -> Prop) -> Prop
noncomputable abbrev TA := St -> Hp -> (List V -> Hp -> Prop) -> Prop
structure Ends where
 nx : St -> Hp -> Prop
 rt : VK
 bk : St -> Hp -> Prop := fun _ _ => False
 ct : St -> Hp -> Prop := fun _ _ => False
noncomputable abbrev TS := Ends -> St -> Hp -> Prop
noncomputable def EP (X : Cx) (pins : List (Addr × Obj)) (σ : St) (Q : VK) (u : Value) (s' : Shared) : Prop := ∃ v H', Inv X pins σ H' s' /\ RelV v u /\ Q v H'
noncomputable def TP (X : Cx) (pins : List (Addr × Obj)) (σ : St) (Q : Bool -> Hp -> Prop) (b : Bool) (s' : Shared) : Prop := ∃ H', Inv X pins σ H' s' /\ Q b H'
noncomputable def AP (X : Cx) (pins : List (Addr × Obj)) (σ : St) (Q : List V -> Hp -> Prop) (us : List Value) (s' : Shared) : Prop := ∃ vs H', Inv X pins σ H' s' /\ Vals vs us /\ Q vs H'
noncomputable def SP (X : Cx) (pins : List (Addr × Obj)) (D : Ends) (f : Flow) (s' : Shared) : Prop :=
 match f with
 | .next => ∃ σ' H', Inv X pins σ' H' s' /\ D.nx σ' H'
 | .brk => ∃ σ' H', Inv X pins σ' H' s' /\ D.bk σ' H'
 | .cont => ∃ σ' H', Inv X pins σ' H' s' /\ D.ct σ' H'
 | .ret u => ∃ v σ' H', Inv X pins σ' H' s' /\ RelV v u /\ D.rt v H'
noncomputable def PE (X : Cx) (e : Expr) (t : TE) : Prop :=
 ∀ (pins : List (Addr × Obj)) (s : Shared) (σ : St) (H : Hp) (Q : VK), Inv X pins σ H s -> t σ H Q -> wpAny (model X.prog X.w) X.A (eval e X.env) (EP X pins σ Q) X.xe s
noncomputable def PT (X : Cx) (e : Expr) (t : TT) : Prop :=
 ∀ (pins : List (Addr × Obj)) (s : Shared) (σ : St) (H : Hp) (Q : Bool -> Hp -> Prop), Inv X pins σ H s -> t σ H Q -> wpAny (model X.prog X.w) X.A (isTrue e X.env (eval e X.env)) (TP X pins σ Q) X.xe s
noncomputable def PW (X : Cx) (e : Expr) (t : TT) : Prop :=
 ∀ (whole : Sem Value) (pins : List (Addr × Obj)) (s : Shared) (σ : St) (H : Hp) (Q : Bool -> Hp -> Prop), Inv X pins σ H s -> t σ H Q -> wpAny (model X.prog X.w) X.A (isTrue e X.env whole) (TP X pins σ Q) X.xe s
theorem PW.pt {X : Cx} {e : Expr} {t : TT} (h : PW X e t) : PT X e t := h _
noncomputable def PA (X : Cx) (es : List Expr) (t : TA) : Prop :=
 ∀ (pos : Pos) (pins : List (Addr × Obj)) (s : Shared) (σ : St) (H : Hp) (Q : List V -> Hp -> Prop), Inv X pins σ H s -> t σ H Q -> wpAny (model X.prog X.w) X.A (spliced (backTo pos (starEach es X.env))) (AP X pins σ Q) X.xe s
noncomputable def PS (X : Cx) (st : Stmt) (t : TS) : Prop :=
 ∀ (pins : List (Addr × Obj)) (s : Shared) (σ : St) (H : Hp) (D : Ends), Inv X pins σ H s -> t D σ H -> wpAny (model X.prog X.w) X.A (exec st X.env) (SP X pins D) X.xe s
noncomputable def PSs (X : Cx) (st : List Stmt) (t : TS) : Prop :=
 ∀ (pins : List (Addr × Obj)) (s : Shared) (σ : St) (H : Hp) (D : Ends), Inv X pins σ H s -> t D σ H -> wpAny (model X.prog X.w) X.A (execs st X.env) (SP X pins D) X.xe s
theorem thn {α : Type} {t : Sem α} {Q Q' : α -> Shared -> Prop} {M : Model} {A : Around} {E : Value -> Shared -> Prop} {s : Shared} (h : wpAny M A t Q E s) (hQ : ∀ a s, Q a s -> Q' a s) : wpAny M A t Q' E s := wpAny_mono h hQ fun _ _ x => x
end L2
namespace L2
open PySem PySem.Spec PyProof.Rows
section
variable {X : Cx}
noncomputable def tVar (i : Nat) : TE := fun σ H Q => ∃ v, σ[i]? = some (some v) /\ Q v H
noncomputable def tC (v : V) : TE := fun _ H Q => Q v H
theorem pe_var {i : Nat} {x : Str} {pos : Pos} (hN : X.N[i]? = some x) (hv : Vis X.env.scope x) (hd : (x == ("__debug__" : Str)) = false := by decide) (hcd : (x == ("__classdict__" : Str)) = false := by decide) : PE X (.Name x pos) (tVar i) := by
 intro pins s σ H Q I h
 refine gz9 fun _ bk0 => ?_
 obtain ⟨v, e, h⟩ := h
 obtain ⟨m, hn, hl⟩ := I.loc
 obtain ⟨u, r, l⟩ := hl i x v hN e hv
 refine bk0 ?_
 have fin : EP X pins σ Q u s := ⟨v, H, I, r, h⟩
 rcases l with ⟨hk, hm⟩ | ⟨hk, c, hc, hcell⟩
 ·exact wpAny_Name (wpAny_loadName_local I.ok.kind hk hn hm fin) hd
 ·rcases hk with hk | hk
  ·exact wpAny_Name (wpAny_loadName_cell I.ok.kind hk hc hcell fin) hd
  ·exact wpAny_Name (wpAny_loadName_free I.ok.kind hk hc hcell fin hcd) hd
theorem pe_int {i j pos} : PE X (.Constant (.int i) j pos) (tC (.int i)) := fun _ _ _ H _ I h => wpAny_Constant_int ⟨.int i, H, I.tok _, ⟨_, rfl⟩, h⟩
theorem pe_bl {b j pos} : PE X (.Constant (.bool b) j pos) (tC (.bl b)) := fun _ _ _ H _ I h => Constant_bool ⟨.bl b, H, I, rfl, h⟩
noncomputable def Gl (X : Cx) (x : Str) : Prop := X.env.kindOf x = some .globalImplicit
theorem ld_glob {E : Value -> Shared -> Prop} {pins : List (Addr × Obj)} {s : Shared} {σ : St} {H : Hp} {x : Str} {u : Value} {pos : Pos} {Q : Value -> Shared -> Prop} (I : Inv X pins σ H s) (hg : Gl X x) (hm : X.mg x = some u) (h : Q u s)
  (hd : (x == ("__debug__" : Str)) = false := by decide) : wpAny (model X.prog X.w) X.A (eval (.Name x pos) X.env) Q E s :=
 Calls.Name_function_global I.ok.kind hg (Calls.loadGlobal_global (by rw [I.ok.glob]; exact I.mod.glob.keeps I.bk) hm h) hd
theorem ld_blt {E : Value -> Shared -> Prop} {pins : List (Addr × Obj)} {s : Shared} {σ : St} {H : Hp} {x : Str} {u : Value} {pos : Pos} {Q : Value -> Shared -> Prop} (I : Inv X pins σ H s) (hg : Gl X x) (hm : X.mg x = none) (hv : bootBuiltins x = some u) (h : Q u s)
  (hn : x ≠ "__name__" := by decide) (hd : (x == ("__debug__" : Str)) = false := by decide) : wpAny (model X.prog X.w) X.A (eval (.Name x pos) X.env) Q E s := by
 obtain ⟨mb, h1, h2⟩ := I.mod.blt
 exact Calls.Name_function_global I.ok.kind hg (Calls.loadGlobal_builtin (by rw [I.ok.glob]; exact I.mod.glob.keeps I.bk) hm (by rw [I.ok.blt]; exact h1.keeps I.bk) ((h2 x hn).trans hv) h) hd
theorem pe_glob {x : Str} {v : V} {u : Value} {pos : Pos} (hg : Gl X x) (hm : X.mg x = some u) (r : RelV v u) (hd : (x == ("__debug__" : Str)) = false := by decide) : PE X (.Name x pos) (tC v) :=
 fun _ _ _ H _ I h => ld_glob I hg hm ⟨v, H, I, r, h⟩ hd
noncomputable def t2I (ta tb : TE) (k : Int -> Int -> Hp -> Prop) : St -> Hp -> Prop := fun σ H => ta σ H fun x H1 => tb σ H1 fun y H2 => ∃ i j, x = .int i /\ y = .int j /\ k i j H2
noncomputable def tAdd (ta tb : TE) : TE := fun σ H Q => t2I ta tb (fun i j H2 => Q (.int (i + j)) H2) σ H
noncomputable def tSub (ta tb : TE) : TE := fun σ H Q => t2I ta tb (fun i j H2 => Q (.int (i - j)) H2) σ H
noncomputable def tMul (ta tb : TE) : TE := fun σ H Q => t2I ta tb (fun i j H2 => (-(2 ^ 64) < i /\ i < 2 ^ 64) /\ Q (.int (i * j)) H2) σ H
variable {a b : Expr} {ta tb : TE} {pos : Pos}
noncomputable def PC (X : Cx) (op : CmpOp) (a b : Expr) (t : TE) : Prop :=
 ∀ (pins : List (Addr × Obj)) (s : Shared) (σ : St) (H : Hp) (Q : VK), Inv X pins σ H s -> t σ H Q →
  wpAny (model X.prog X.w) X.A (eval a X.env) (fun v s₁ => wpAny (model X.prog X.w) X.A (eval b X.env) (fun u s₂ => wpAny (model X.prog X.w) X.A (compareOp op v u) (EP X pins σ Q) X.xe s₂) X.xe s₁) X.xe s
theorem nobehind (b : Expr) {op : CmpOp} (h : op ≠ .In) (h2 : op ≠ .NotIn) : behindInMarks op b = false := by
 have e1 : (op == CmpOp.In) = false := by cases op <;> first | rfl | exact absurd rfl h
 have e2 : (op == CmpOp.NotIn) = false := by cases op <;> first | rfl | exact absurd rfl h2
 cases b <;> simp [behindInMarks, e1, e2]
noncomputable def tCmp (p : Int -> Int -> Bool) (ta tb : TE) : TE := fun σ H Q => t2I ta tb (fun i j H2 => Q (.bl (p i j)) H2) σ H
noncomputable abbrev tLt : TE -> TE -> TE := tCmp fun i j => decide (i < j)
noncomputable abbrev tLe : TE -> TE -> TE := tCmp fun i j => decide (i <= j)
noncomputable abbrev tGt : TE -> TE -> TE := tCmp fun i j => decide (j < i)
noncomputable abbrev tGe : TE -> TE -> TE := tCmp fun i j => decide (j <= i)
noncomputable abbrev tEqI : TE -> TE -> TE := tCmp fun i j => decide (i = j)
noncomputable abbrev tNeI : TE -> TE -> TE := tCmp fun i j => !decide (i = j)
noncomputable def tIsN (ta : TE) : TE := fun σ H Q => ta σ H fun x H1 => Q (.bl (decide (x = .non))) H1
noncomputable def tNotN (ta : TE) : TE := fun σ H Q => ta σ H fun x H1 => Q (.bl (!decide (x = .non))) H1
theorem RelV.none_iff {x : V} {v : Value} (r : RelV x v) : (v == Value.none) = decide (x = .non) := by
 cases x with
 | non => cases r; rfl
 | bl _ => cases r; rfl
 | int _ => obtain ⟨t, rfl⟩ := r; rfl
 | str _ => obtain ⟨t, rfl⟩ := r; rfl
 | byt _ => obtain ⟨t, rfl⟩ := r; rfl
 | flt _ => obtain ⟨t, rfl⟩ := r; rfl
 | ref _ => cases r; rfl
 | ty _ => cases r; rfl
theorem pc_isN {j pos'} (ha : PE X a ta) : PC X .Is a (.Constant .none j pos') (tIsN ta) := by
 intro pins s σ H Q I h
 refine thn (ha pins s σ H _ I h) fun v s1 pk0 => ?_
 refine gz9 fun _ bk0 => ?_
 obtain ⟨x, H1, I1, r1, q1⟩ := pk0
 refine bk0 ?_
 exact Constant_none (is_none_gen ⟨.bl _, H1, I1, by rw [r1.none_iff]; rfl, q1⟩)
noncomputable def tB (t : TE) : TT := fun σ H Q => t σ H fun x H1 => ∃ c, x = .bl c /\ Q c H1
theorem pt_cmp {op : CmpOp} {t : TE} (h : PC X op a b t) (h1 : behindInMarks op b = false := by first | exact nobehind _ (by decide) (by decide) | rfl) : PT X (.Compare a [op] [b] pos) (tB t) := by
 intro pins s σ H Q I hw
 refine wpAny_isTrue_Compare1 (thn (h pins s σ H _ I hw) fun v s1 h1 => thn h1 fun u s2 h2 => thn h2 fun c s3 pk0 => ?_) h1
 refine gz9 fun _ bk0 => ?_
 obtain ⟨x, H1, I1, r1, q1⟩ := pk0
 obtain ⟨d, rfl, q⟩ := q1
 refine bk0 ?_
 cases r1
 exact wpAny_truthy_bool ⟨H1, I1, q⟩
theorem pt_val {e : Expr} {t : TE} (h : PE X e t) (he : ∀ whole, isTrue e X.env whole = (do let v <- whole; standAt e.pos; holding [v] (truthy v)) := by intro _; rfl) : PT X e (tB t) := by
 intro pins s σ H Q I hw
 refine isTrue_plain (thn (h pins s σ H _ I hw) fun v s1 pk0 => ?_) (he _)
 refine gz9 fun _ bk0 => ?_
 obtain ⟨x, H1, I1, r1, q1⟩ := pk0
 obtain ⟨d, rfl, q⟩ := q1
 refine bk0 ?_
 cases r1
 exact wpAny_truthy_bool ⟨H1, I1, q⟩
variable {tA tB' : TT} {rest : List Expr}
noncomputable def tAnd (t u : TT) : TT := fun σ H Q => t σ H fun c H1 => if c = true then u σ H1 Q else Q false H1
noncomputable def tOr (t u : TT) : TT := fun σ H Q => t σ H fun c H1 => if c = true then Q true H1 else u σ H1 Q
noncomputable def tNot (t : TT) : TT := fun σ H Q => t σ H fun c H1 => Q (!c) H1
theorem pw_and1 (ha : PT X a tA) : PW X (.BoolOp .And [a] pos) tA := by
 intro wh pins s σ H Q I h
 refine isTrue_and (thn (ha pins s σ H Q I h) fun c s1 e => ?_)
 cases c with
 | true => exact isTrue_and_nil e
 | false => exact e
theorem pw_or1 (ha : PT X a tA) : PW X (.BoolOp .Or [a] pos) tA := by
 intro wh pins s σ H Q I h
 refine isTrue_or (thn (ha pins s σ H Q I h) fun c s1 e => ?_)
 cases c with
 | false => exact isTrue_or_nil e
 | true => exact e
theorem pw_and (ha : PT X a tA) (hb : PW X (.BoolOp .And (b :: rest) pos) tB') : PW X (.BoolOp .And (a :: b :: rest) pos) (tAnd tA tB') := by
 intro wh pins s σ H Q I h
 refine isTrue_and (thn (ha pins s σ H _ I h) fun c s1 pk0 => ?_)
 obtain ⟨H1, I1, q1⟩ := pk0
 cases c with
 | true => exact hb wh pins s1 σ H1 Q I1 q1
 | false => exact ⟨H1, I1, q1⟩
theorem pw_or (ha : PT X a tA) (hb : PW X (.BoolOp .Or (b :: rest) pos) tB') : PW X (.BoolOp .Or (a :: b :: rest) pos) (tOr tA tB') := by
 intro wh pins s σ H Q I h
 refine isTrue_or (thn (ha pins s σ H _ I h) fun c s1 pk0 => ?_)
 obtain ⟨H1, I1, q1⟩ := pk0
 cases c with
 | true => exact ⟨H1, I1, q1⟩
 | false => exact hb wh pins s1 σ H1 Q I1 q1
theorem pt_not (ha : PT X a tA) : PT X (.UnaryOp .Not a pos) (tNot tA) := by
 intro pins s σ H Q I h
 exact isTrue_not (ha pins s σ H (fun c H1 => Q (!c) H1) I h)
noncomputable def tAndV (ta tb : TE) : TE := fun σ H Q => ta σ H fun x H1 => ∃ c, x = .bl c /\ if c = true then tb σ H1 Q else Q (.bl false) H1
noncomputable def tOrV (ta tb : TE) : TE := fun σ H Q => ta σ H fun x H1 => ∃ c, x = .bl c /\ if c = true then Q (.bl true) H1 else tb σ H1 Q
noncomputable def tNotV (ta : TE) : TE := fun σ H Q => ta σ H fun x H1 => ∃ c, x = .bl c /\ Q (.bl (!c)) H1
theorem pe_one {op} {t : TE} (h : PE X a t) : PE X (.BoolOp op [a] pos) t := fun pins s σ H Q I hw => BoolOp_one (h pins s σ H Q I hw)
theorem pe_and (ha : PE X a ta) (hb : PE X (.BoolOp .And (b :: rest) pos) tb) : PE X (.BoolOp .And (a :: b :: rest) pos) (tAndV ta tb) := by
 intro pins s σ H Q I h
 refine BoolOp_and (thn (ha pins s σ H _ I h) fun v s1 pk0 => ?_)
 refine gz9 fun _ bk0 => ?_
 obtain ⟨x, H1, I1, r1, q1⟩ := pk0
 obtain ⟨c, rfl, q1⟩ := q1
 refine bk0 ?_
 cases r1
 refine wpAny_truthy_bool ?_
 cases c with
 | true => exact hb pins s1 σ H1 Q I1 q1
 | false => exact ⟨.bl false, H1, I1, rfl, q1⟩
noncomputable def tIf (t : TT) (ta tb : TE) : TE := fun σ H Q => t σ H fun c H1 => if c = true then ta σ H1 Q else tb σ H1 Q
theorem pe_ifExp {c : Expr} (hc : PT X c tA) (ha : PE X a ta) (hb : PE X b tb) : PE X (.IfExp c a b pos) (tIf tA ta tb) := by
 intro pins s σ H Q I h
 refine wpAny_IfExp (thn (hc pins s σ H _ I h) fun d s1 pk0 => ?_)
 obtain ⟨H1, I1, q1⟩ := pk0
 cases d with
 | true => exact ha pins s1 σ H1 Q I1 q1
 | false => exact hb pins s1 σ H1 Q I1 q1
end
end L2
namespace L2
open PySem PySem.Spec PyProof.Rows
noncomputable def SqL (K : W.Frag) (H : Hp) (a : Addr) (xs : List V) : Prop :=
 Rd H a (.lst xs) ∨
  ∃ (o : Obj) (its : Array Value) (n : Nat), K.lookup a = some o /\ o.cls = .type "list" /\ o.dict = none /\ o.data = .seq its n /\ its.size <= sizeLine /\ Vals xs its.toList
noncomputable def SqT (K : W.Frag) (H : Hp) (a : Addr) (xs : List V) : Prop :=
 Rd H a (.tup xs) ∨
  ∃ (o : Obj) (its : Array Value) (n : Nat), K.lookup a = some o /\ o.cls = .type "tuple" /\ o.data = .seq its n /\ its.size <= sizeLine /\ Vals xs its.toList
noncomputable def absV : Value -> Option V
 | .none => some .non
 | .bool b => some (.bl b)
 | .int i _ => some (.int i)
 | .str x _ => some (.str x)
 | .bytes b _ => some (.byt b)
 | .float b _ => some (.flt b)
 | .ref a => some (.ref a)
 | .type n => some (.ty n)
 | _ => none
theorem RelV.abs {x : V} {u : Value} (r : RelV x u) : absV u = some x := by
 cases x with
 | non => cases r; rfl
 | bl _ => cases r; rfl
 | int _ => obtain ⟨t, rfl⟩ := r; rfl
 | str _ => obtain ⟨t, rfl⟩ := r; rfl
 | byt _ => obtain ⟨t, rfl⟩ := r; rfl
 | flt _ => obtain ⟨t, rfl⟩ := r; rfl
 | ref _ => cases r; rfl
 | ty _ => cases r; rfl
theorem RelV.inj {x y : V} {u : Value} (r : RelV x u) (q : RelV y u) : x = y := Option.some.inj (r.abs.symm.trans q.abs)
theorem Vals.abs {xs : List V} {us : List Value} (h : Vals xs us) : us.map absV = xs.map some := by
 induction h with
 | nil => rfl
 | cons r _ ih => rw [List.map_cons, List.map_cons, r.abs, ih]
theorem Vals.inj {xs ys : List V} {us : List Value} (h : Vals xs us) (g : Vals ys us) : xs = ys :=
 (List.map_inj_right fun _ _ e => Option.some.inj e).mp (h.abs.symm.trans g.abs)
section
variable {X : Cx} {pins : List (Addr × Obj)} {σ : St} {H : Hp} {s : Shared} {a : Addr} {xs ys : List V}
theorem SqL.of {K : W.Frag} (h : H a = some (.lst xs)) : SqL K H a xs := .inl (.inl h)
theorem SqT.of {K : W.Frag} (h : H a = some (.tup xs)) : SqT K H a xs := .inl (.inl h)
theorem Inv.list (I : Inv X pins σ H s) (h : SqL X.K H a xs) : ∃ its : List Value, Vals xs its /\ PlainL s.heap a its.toArray /\ xs.length <= sizeLine := by
 rcases h with h | ⟨o, its, n, hk, hc, hd, hs, hz, r⟩
 ·obtain ⟨z, its, n, r, e⟩ := h.ok I.hok
  exact ⟨its, r, ⟨_, n, e, rfl, rfl, rfl⟩, z⟩
 ·refine ⟨its.toList, r, ⟨o, n, I.kIn a o hk, hc, hd, by simpa using hs⟩, ?_⟩
  have e := r.length
  simp only [Array.length_toList] at e
  (first | lia | omega)
theorem Inv.tuple (I : Inv X pins σ H s) (h : SqT X.K H a xs) : ∃ its : List Value, Vals xs its /\ IsTup s.heap a its.toArray /\ xs.length <= sizeLine := by
 rcases h with h | ⟨o, its, n, hk, hc, hs, hz, r⟩
 ·obtain ⟨z, its, r, p⟩ := h.ok I.hok
  exact ⟨its, r, p, z⟩
 ·refine ⟨its.toList, r, ⟨o, I.kIn a o hk, hc, n, by simpa using hs⟩, ?_⟩
  have e := r.length
  simp only [Array.length_toList] at e
  (first | lia | omega)
theorem Inv.list_inj (I : Inv X pins σ H s) (h : SqL X.K H a xs) (h' : SqL X.K H a ys) : xs = ys := by
 refine gz9 fun _ bk0 => ?_
 obtain ⟨its, r, ⟨o, n, e, _, _, d⟩, _⟩ := I.list h
 obtain ⟨its', r', ⟨o', n', e', _, _, d'⟩, _⟩ := I.list h'
 refine bk0 ?_
 rw [e] at e'; cases e'
 rw [d] at d'
 injection d' with d1 _
 have : its = its' := by simpa using congrArg Array.toList d1
 subst this
 exact r.inj r'
theorem Inv.tuple_inj (I : Inv X pins σ H s) (h : SqT X.K H a xs) (h' : SqT X.K H a ys) : xs = ys := by
 refine gz9 fun _ bk0 => ?_
 obtain ⟨its, r, ⟨o, e, _, n, d⟩, _⟩ := I.tuple h
 obtain ⟨its', r', ⟨o', e', _, n', d'⟩, _⟩ := I.tuple h'
 refine bk0 ?_
 rw [e] at e'; cases e'
 rw [d] at d'
 injection d' with d1 _
 have : its = its' := by simpa using congrArg Array.toList d1
 subst this
 exact r.inj r'
end
noncomputable abbrev Cx.wish (X : Cx) (E : Value -> Shared -> Prop) : Cx := { X with xe := E }
noncomputable abbrev Cx.nox (X : Cx) : Cx := X.wish fun _ _ => False
theorem Cx.Ok.wish {X : Cx} (ok : X.Ok) (E : Value -> Shared -> Prop) : (X.wish E).Ok :=
 ⟨ok.mod, ok.kind, ok.glob, ok.blt, ok.above, ok.inj, ok.has, ok.cab, ok.hd, ok.frames, ok.stk, ok.exf, ok.bs, ok.bsz, ok.noex, ok.exfs, ok.funs, ok.frf⟩
theorem Cx.Ok.unwish {X : Cx} {E : Value -> Shared -> Prop} (ok : (X.wish E).Ok) : X.Ok :=
 ⟨ok.mod, ok.kind, ok.glob, ok.blt, ok.above, ok.inj, ok.has, ok.cab, ok.hd, ok.frames, ok.stk, ok.exf, ok.bs, ok.bsz, ok.noex, ok.exfs, ok.funs, ok.frf⟩
section
variable {X : Cx} {pins : List (Addr × Obj)} {σ : St} {H : Hp} {s : Shared} {E : Value -> Shared -> Prop}
theorem Inv.wish (I : Inv X pins σ H s) (E : Value -> Shared -> Prop) : Inv (X.wish E) pins σ H s := ⟨I.ok.wish E, I.os, I.bare, I.base, I.loc, I.cell, I.free, I.freeC, I.pin, I.hok, I.len⟩
theorem Inv.unwish (I : Inv (X.wish E) pins σ H s) : Inv X pins σ H s := ⟨I.ok.unwish, I.os, I.bare, I.base, I.loc, I.cell, I.free, I.freeC, I.pin, I.hok, I.len⟩
theorem SP.unwish {D : Ends} {f : Flow} {s' : Shared} (h : SP (X.wish E) pins D f s') : SP X pins D f s' := by
 cases f with
 | next => obtain ⟨σ', H', I, q⟩ := h; exact ⟨σ', H', I.unwish, q⟩
 | brk => obtain ⟨σ', H', I, q⟩ := h; exact ⟨σ', H', I.unwish, q⟩
 | cont => obtain ⟨σ', H', I, q⟩ := h; exact ⟨σ', H', I.unwish, q⟩
 | ret u => obtain ⟨v, σ', H', I, r, q⟩ := h; exact ⟨v, σ', H', I.unwish, r, q⟩
theorem PSs.nox {st : List Stmt} {t : TS} (h : PSs X.nox st t) : PSs X st t := fun pins s σ H D I hw =>
 wpAny_mono (h pins s σ H D (I.wish _) hw) (fun _ _ q => q.unwish) fun _ _ z => False.elim z
end
section
variable {X : Cx} {st : Stmt} {rest : List Stmt} {t u : TS} {e : Expr} {te : TE} {pos : Pos}
noncomputable def tNext : TS := fun D σ H => D.nx σ H
noncomputable def tSeq (t u : TS) : TS := fun D σ H => t { D with nx := u D } σ H
theorem pss_nil : PSs X [] tNext := fun _ _ σ H _ I h => wpAny_execs_nil ⟨σ, H, I, h⟩
theorem pss_cons (h1 : PS X st t) (h2 : PSs X rest u) : PSs X (st :: rest) (tSeq t u) := by
 intro pins s σ H D I h
 refine wpAny_execs_cons (thn (h1 pins s σ H { D with nx := u D } I h) fun f s1 q => ?_)
 cases f with
 | next =>
  refine gz9 fun _ bk0 => ?_
  obtain ⟨σ', H', I', q⟩ := q
  refine bk0 ?_
  exact h2 pins s1 σ' H' D I' q
 | ret v => exact q
 | brk => exact q
 | cont => exact q
theorem pss_one (h1 : PS X st t) : PSs X [st] t := by
 intro pins s σ H D I h
 refine wpAny_execs_cons (thn (h1 pins s σ H D I h) fun f s1 q => ?_)
 cases f with
 | next => exact wpAny_execs_nil q
 | ret v => exact q
 | brk => exact q
 | cont => exact q
noncomputable def tBreak : TS := fun D σ H => D.bk σ H
noncomputable def tCont : TS := fun D σ H => D.ct σ H
theorem Inv.quiet {pins : List (Addr × Obj)} {σ : St} {H : Hp} {s : Shared} (I : Inv X pins σ H s) : interactive X.env = false := by simp [interactive, I.ok.kind]
noncomputable def tDrop (te : TE) : TS := fun D σ H => te σ H fun _ H1 => D.nx σ H1
theorem ps_expr (he : PE X e te) (hs : swapsWith e none pos.line X.env = pure false := by rfl) : PS X (.Expr e pos) (tDrop te) := by
 intro pins s σ H D I h
 refine wpAny_Expr_any (thn (he pins s σ H _ I h) fun v s1 pk0 => ?_) I.quiet hs
 refine gz9 fun _ bk0 => ?_
 obtain ⟨x, H1, I1, r1, q1⟩ := pk0
 refine bk0 ?_
 exact ⟨σ, H1, I1, q1⟩
noncomputable def tRet (te : TE) : TS := fun D σ H => te σ H D.rt
theorem ps_ret (he : PE X e te) : PS X (.Return (some e) pos) (tRet te) := by
 intro pins s σ H D I h
 refine wpAny_Return_some (thn (he pins s σ H _ I h) fun v s1 pk0 => ?_)
 refine gz9 fun _ bk0 => ?_
 obtain ⟨x, H1, I1, r1, q1⟩ := pk0
 refine bk0 ?_
 exact ⟨x, σ, H1, I1, r1, q1⟩
noncomputable def tRetN : TS := fun D _ H => D.rt .non H
noncomputable def tIfS (c : TT) (t u : TS) : TS := fun D σ H => c σ H fun b H1 => if b = true then t D σ H1 else u D σ H1
theorem ps_if {c : Expr} {a b : List Stmt} {tc : TT} (hc : PT X c tc) (ha : PSs X a t) (hb : PSs X b u) : PS X (.If c a b pos) (tIfS tc t u) := by
 intro pins s σ H D I h
 refine wpAny_If (thn (hc pins s σ H _ I h) fun d s1 pk0 => ?_)
 obtain ⟨H1, I1, q1⟩ := pk0
 cases d with
 | true => exact ha pins s1 σ H1 D I1 q1
 | false => exact hb pins s1 σ H1 D I1 q1
noncomputable def tNever : TS := fun _ _ _ => False
end
noncomputable abbrev TG := V -> St -> Hp -> (St -> Hp -> Prop) -> Prop
noncomputable abbrev TGs := List V -> St -> Hp -> (St -> Hp -> Prop) -> Prop
noncomputable def PG (X : Cx) (target : Expr) (t : TG) : Prop :=
 ∀ (pins : List (Addr × Obj)) (s : Shared) (σ : St) (H : Hp) (v : V) (u : Value) (Q : St -> Hp -> Prop), Inv X pins σ H s -> RelV v u -> t v σ H Q →
  wpAny (model X.prog X.w) X.A (assign target X.env u) (fun _ s' => ∃ σ' H', Inv X pins σ' H' s' /\ Q σ' H') X.xe s
noncomputable def PGs (X : Cx) (ts : List Expr) (t : TGs) : Prop :=
 ∀ (pins : List (Addr × Obj)) (s : Shared) (σ : St) (H : Hp) (vs : List V) (us : List Value) (Q : St -> Hp -> Prop), Inv X pins σ H s -> Vals vs us -> t vs σ H Q →
  wpAny (model X.prog X.w) X.A (assignInOrder ((assignEach ts X.env).map (·.2)) us) (fun _ s' => ∃ σ' H', Inv X pins σ' H' s' /\ Q σ' H') X.xe s
noncomputable abbrev TSet := V -> V -> V -> Hp -> (Hp -> Prop) -> Prop
noncomputable def PSet (X : Cx) (t : TSet) : Prop :=
 ∀ (pins : List (Addr × Obj)) (s : Shared) (σ : St) (H : Hp) (o i v : V) (ov iv u : Value) (Q : Hp -> Prop), Inv X pins σ H s -> RelV o ov -> RelV i iv -> RelV v u -> t o i v H Q →
  wpAny (model X.prog X.w) X.A (setItem ov iv u) (fun _ s' => ∃ H', Inv X pins σ H' s' /\ Q H') X.xe s
noncomputable abbrev TIp := V -> V -> Hp -> VK -> Prop
noncomputable def PIp (X : Cx) (op : Operator) (t : TIp) : Prop :=
 ∀ (pins : List (Addr × Obj)) (s : Shared) (σ : St) (H : Hp) (x y : V) (v u : Value) (Q : VK), Inv X pins σ H s -> RelV x v -> RelV y u -> t x y H Q →
  wpAny (model X.prog X.w) X.A (inplaceOp op v u) (EP X pins σ Q) X.xe s
section
variable {X : Cx} {pos : Pos}
noncomputable def gName (i : Nat) : TG := fun v σ H Q => Q (σ.set i (some v)) H
theorem pg_name {i : Nat} {x : Str} (hN : X.N.Nodup) (hi : X.N[i]? = some x) (hx : Loc X.env.scope x) (hf : X.fn x = true \/ X.env.scope.names.lookup x = some .local := by first | exact .inl rfl | exact .inr rfl | assumption) : PG X (.Name x pos) (gName i) := by
 intro pins s σ H v u Q I r h
 exact wpAny_assign_Name (store_ok I hN hi hx r (fun s' I' => ⟨_, H, I', h⟩) hf)
noncomputable def gNil : TGs := fun vs σ H Q => vs = [] /\ Q σ H
noncomputable def gCons (t : TG) (u : TGs) : TGs := fun vs σ H Q => ∃ v r, vs = v :: r /\ t v σ H fun σ' H' => u r σ' H' Q
theorem pgs_nil : PGs X [] gNil := by
 intro pins s σ H vs us Q I r h
 obtain ⟨e, h⟩ := h
 subst e
 cases r
 exact assignInOrder_nil ⟨σ, H, I, h⟩
theorem pgs_cons {e : Expr} {es : List Expr} {t : TG} {u : TGs} (h1 : PG X e t) (h2 : PGs X es u)
  (hs : (assignEach (e :: es) X.env).map (·.2) = assign e X.env :: (assignEach es X.env).map (·.2) := by rfl) : PGs X (e :: es) (gCons t u) := by
 intro pins s σ H vs us Q I r h
 refine gz9 fun _ bk0 => ?_
 obtain ⟨v, vr, e1, h⟩ := h
 refine bk0 ?_
 subst e1
 cases r with
 | cons r rr =>
  rw [hs]
  refine assignInOrder_cons (thn (h1 pins s σ H _ _ _ I r h) fun _ s1 pk0 => ?_)
  refine gz9 fun _ bk0 => ?_
  obtain ⟨σ1, H1, I1, q1⟩ := pk0
  refine bk0 ?_
  exact h2 pins s1 σ1 H1 _ _ Q I1 rr q1
noncomputable def gTup (K : W.Frag) (n : Nat) (t : TGs) : TG := fun v σ H Q => ∃ a xs, v = .ref a /\ SqT K H a xs /\ xs.length = n /\ t xs σ H Q
theorem pg_tup {es : List Expr} {k : Nat} {t : TGs} {n : Nat} (hc : X.calm = true) (h : PGs X es t)
  (hn : (assignEach es X.env).length = n := by rfl) (hst : (assignEach es X.env).findIdx? (·.1) = none := by rfl) : PG X (.Tuple es k pos) (gTup X.K n t) := by
 intro pins s σ H v u Q I r hw
 refine gz9 fun _ bk0 => ?_
 obtain ⟨a, xs, e1, hq, hl, hw⟩ := hw
 refine bk0 ?_
 subst e1
 cases r
 refine gz9 fun _ bk0 => ?_
 obtain ⟨its, rv, ht, hz⟩ := I.tuple hq
 refine bk0 ?_
 refine assign_Tuple_tuple (I.ok.hd hc) ht (by simp [hn, <- hl, rv.length]) hst fun h' hx => ?_
 have I1 : Inv X pins σ H { s with heap := h' } := I.kept (t' := s.toks) fun b o e => hx b o (Nat.ne_of_lt (Heap.lt_size e)) e
 exact h pins _ σ H xs _ Q I1 (by simpa using rv) hw
noncomputable def gSub (to ti : TE) (t : TSet) : TG := fun v σ H Q => to σ H fun o H1 => ti σ H1 fun i H2 => t o i v H2 fun H3 => Q σ H3
theorem pg_sub {o i : Expr} {to ti : TE} {t : TSet} (ho : PE X o to) (hi : PE X i ti) (hs : PSet X t)
  (ha : ∀ v, assign (.Subscript o i pos) X.env v = (do
   let ov <- holding [v] (eval o X.env)
   let iv <- holding [v, ov] (eval i X.env)
   standAt pos
   holding [v, ov, iv] (setItem ov iv v)
   release [v, ov, iv] []) := by intro _; rfl) : PG X (.Subscript o i pos) (gSub to ti t) := by
 intro pins s σ H v u Q I r h
 rw [ha]
 refine wpAny_bind (wpAny_holding (thn (ho pins s σ H _ I h) fun ov s1 pk0 => ?_))
 refine gz9 fun _ bk0 => ?_
 obtain ⟨x, H1, I1, r1, q1⟩ := pk0
 refine bk0 ?_
 refine wpAny_bind (wpAny_holding (thn (hi pins s1 σ H1 _ I1 q1) fun iv s2 pk0 => ?_))
 refine gz9 fun _ bk0 => ?_
 obtain ⟨y, H2, I2, r2, q2⟩ := pk0
 refine bk0 ?_
 refine wpAny_bind (wpAny_standAt (wpAny_bind (wpAny_holding (thn (hs pins s2 σ H2 x y v ov iv u _ I2 r1 r2 r q2) fun _ s3 pk0 => ?_))))
 obtain ⟨H3, I3, q3⟩ := pk0
 exact wpAny_release ⟨σ, H3, I3, q3⟩
noncomputable def tAsg (te : TE) (g : TG) : TS := fun D σ H => te σ H fun x H1 => g x σ H1 D.nx
theorem ps_asg {tg e : Expr} {te : TE} {g : TG} (he : PE X e te) (hg : PG X tg g) (hs : swapsWithSole [tg] e pos.line X.env = pure false := by rfl) (hw : swappedStores [tg] e X.env = pure none := by rfl)
  (h1 : (assignEach [tg] X.env).map (·.2) = [assign tg X.env] := by rfl) : PS X (.Assign [tg] e pos) (tAsg te g) := by
 intro pins s σ H D I h
 refine wpAny_Assign_stores (thn (he pins s σ H _ I h) fun v s1 pk0 => ?_) hs hw
 refine gz9 fun _ bk0 => ?_
 obtain ⟨x, H1, I1, r1, q1⟩ := pk0
 refine bk0 ?_
 rw [h1]
 exact thn (hg pins s1 σ H1 x v _ I1 r1 q1) fun _ s2 q => q
theorem ps_set {i : Nat} {x : Str} {e : Expr} {te : TE} {pos' : Pos} (hN : X.N.Nodup) (hi : X.N[i]? = some x) (hx : Loc X.env.scope x) (he : PE X e te) (hs : swapsWith e (some (.Name x pos')) pos.line X.env = pure false := by rfl) (hf : X.fn x = true \/ X.env.scope.names.lookup x = some .local := by first | exact .inl rfl | exact .inr rfl | assumption) :
  PS X (.Assign [.Name x pos'] e pos) (tAsg te (gName i)) := by
 intro pins s σ H D I h
 refine wpAny_Assign_Name (thn (he pins s σ H _ I h) fun v s1 pk0 => ?_) hs
 refine gz9 fun _ bk0 => ?_
 obtain ⟨y, H1, I1, r1, q1⟩ := pk0
 refine bk0 ?_
 exact store_ok I1 hN hi hx r1 (fun s2 I2 => ⟨_, H1, I2, q1⟩) hf
noncomputable def tPar (i j : Nat) (ta : TA) : TS := fun D σ H => ta σ H fun vs H1 => ∃ v w, vs = [v, w] /\ D.nx ((σ.set i (some v)).set j (some w)) H1
noncomputable def tAug (i : Nat) (te : TE) (ti : TIp) : TS := fun D σ H => ∃ x, σ[i]? = some (some x) /\ te σ H fun y H1 => ti x y H1 fun z H2 => D.nx (σ.set i (some z)) H2
noncomputable def tAugS (to ti te : TE) (tget : V -> V -> Hp -> VK -> Prop) (tip : TIp) (tset : TSet) : TS := fun D σ H => to σ H fun o H1 => ti σ H1 fun i H2 => tget o i H2 fun x H3 => te σ H3 fun y H4 => tip x y H4 fun z H5 => tset o i z H5 fun H6 => D.nx σ H6
noncomputable def PGet (X : Cx) (t : V -> V -> Hp -> VK -> Prop) : Prop :=
 ∀ (pins : List (Addr × Obj)) (s : Shared) (σ : St) (H : Hp) (o i : V) (ov iv : Value) (Q : VK), Inv X pins σ H s -> RelV o ov -> RelV i iv -> t o i H Q →
  wpAny (model X.prog X.w) X.A (getItem ov iv) (EP X pins σ Q) X.xe s
noncomputable def ipI (f : Int -> Int -> Int) : TIp := fun x y H Q => ∃ i j, x = .int i /\ y = .int j /\ Q (.int (f i j)) H
end
section
variable {X : Cx} {pos : Pos}
noncomputable def tWhile (c : TT) (tb : TS) : TS := fun D σ H => ∃ W : Nat -> St -> Hp -> Prop, (∃ m, W m σ H) /\ ∀ m σ H, W m σ H →
 c σ H fun b H1 => if b = true then ∃ N : St -> Hp -> Prop, (∀ σ' H', N σ' H' -> ∃ m', m' < m /\ W m' σ' H') /\ tb { D with nx := N, ct := N, bk := D.nx } σ H1 else D.nx σ H1
theorem ps_while {c : Expr} {body : List Stmt} {tc : TT} {tb : TS} (hp : PassesOwn (model X.prog X.w) X.A X.env X.xe) (hc : PT X c tc) (hb : PSs X body tb) : PS X (.While c body [] pos) (tWhile tc tb) := by
 intro pins s σ H D I h
 refine gz9 fun _ bk0 => ?_
 obtain ⟨W, ⟨m0, w0⟩, turn⟩ := h
 refine bk0 ?_
 refine wpAny_While (codeAny_whileLoop (fun n s' => ∃ σ' H', Inv X pins σ' H' s' /\ W n σ' H') ?_ m0 ⟨σ, H, I, w0⟩)
 rintro n s1 ⟨σ1, H1, I1, w1⟩
 refine wpAny_passesOwn hp (thn (hc pins s1 σ1 H1 _ I1 (turn n σ1 H1 w1)) fun b s2 pk0 => ?_)
 obtain ⟨H2, I2, q2⟩ := pk0
 cases b with
 | true =>
  obtain ⟨N, hN, q2⟩ := q2
  rw [if_pos rfl]
  refine wpAny_passesOwn hp (thn (hb pins s2 σ1 H2 _ I2 q2) fun f s3 q3 => ?_)
  cases f with
  | next =>
   refine gz9 fun _ bk0 => ?_
   obtain ⟨σ3, H3, I3, n3⟩ := q3
   obtain ⟨m', hm, w3⟩ := hN σ3 H3 n3
   refine bk0 ?_
   exact ⟨m', hm, σ3, H3, I3, w3⟩
  | cont =>
   refine gz9 fun _ bk0 => ?_
   obtain ⟨σ3, H3, I3, n3⟩ := q3
   obtain ⟨m', hm, w3⟩ := hN σ3 H3 n3
   refine bk0 ?_
   exact ⟨m', hm, σ3, H3, I3, w3⟩
  | brk => exact q3
  | ret v => exact q3
 | false =>
  rw [if_neg Bool.false_ne_true]
  exact wpAny_execs_nil ⟨σ1, H2, I2, q2⟩
end
structure It where
 go : Nat -> Hp -> Prop
 yld : Nat -> Hp -> V -> Hp -> Prop
 stop : Nat -> Hp -> Prop
noncomputable def FpOk (X : Cx) (pins : List (Addr × Obj)) (H : Hp) (b : Addr) : Prop :=
 H b = none /\ b ≠ X.env.locals /\ b ∉ X.fs /\ (b ∈ X.ex \/ X.s₀.heap.objs.size <= b) /\ (∀ x c, X.env.cells.lookup x = some c -> c ≠ b) /\ ∀ p ∈ X.pn ++ pins, p.1 ≠ b
theorem Inv.fpOk {X : Cx} {pins : List (Addr × Obj)} {σ : St} {H H' : Hp} {s : Shared} {b : Addr} (I : Inv X pins σ H s) (hb : s.heap.objs.size <= b) (hn : H' b = none) : FpOk X pins H' b := by
 refine ⟨hn, Nat.ne_of_gt (Nat.lt_of_lt_of_le I.lt hb), I.nofs hb, .inr (Nat.le_trans I.sz hb), fun x c e z => ?_, fun p hp z => ?_⟩
 ·obtain ⟨v, q⟩ := I.cell x c e
  exact absurd (Nat.lt_of_lt_of_le q.lt (by rw [z]; exact hb)) (Nat.lt_irrefl _)
 ·exact absurd (Nat.lt_of_lt_of_le (Heap.lt_size (I.pin p hp).1) (by rw [z]; exact hb)) (Nat.lt_irrefl _)
structure Turn (P : Program) (w : World) (K : W.Frag) (tg : Expr) (J : It) (fp : List Addr) (it : Addr) (tn : Nat -> Heap -> Prop) : Prop where
 mem : it ∈ fp
 obj : ∀ i h, tn i h -> ∀ b ∈ fp, ∃ o, h.get? b = some o /\ ∀ v, o.data ≠ .cell v
 keep : ∀ i h h', tn i h -> (∀ b ∈ fp, ∀ o, h.get? b = some o -> h'.get? b = some o) -> tn i h'
 item : ∀ (X : Cx), X.prog = P -> X.w = w -> X.K = K -> X.calm = true -> ∀ (i : Nat) (pins : List (Addr × Obj)) (s : Shared) (σ : St) (H : Hp) (E : Value -> Shared -> Prop), Inv X pins σ H s -> (∀ b ∈ fp, FpOk X pins H b) -> tn i s.heap -> J.go i H →
  wpAny (model P w) X.A (pyNext (.ref it)) (fun r s1 => ∃ u, r = some u ∧
   wpAny (model P w) X.A (letOwnedTupleGo tg (.ref it) u) (fun _ s2 => ∃ x H', Inv X pins σ H' s2 /\ RelV x u /\ J.yld i H x H' /\ tn (i + 1) s2.heap /\ ∀ b ∈ fp, H' b = none) E s1) E s
 done : ∀ (X : Cx), X.prog = P -> X.w = w -> X.K = K -> X.calm = true -> ∀ (i : Nat) (pins : List (Addr × Obj)) (s : Shared) (σ : St) (H : Hp) (E : Value -> Shared -> Prop), Inv X pins σ H s -> (∀ b ∈ fp, FpOk X pins H b) -> tn i s.heap -> J.stop i H →
  wpAny (model P w) X.A (pyNext (.ref it)) (fun r s1 => r = none /\ Inv X pins σ H s1) E s
 self : ∀ (A : Around) (i : Nat) (s : Shared) (Q : Value -> Shared -> Prop) (E : Value -> Shared -> Prop), tn i s.heap -> Q (.ref it) s -> wpAny (model P w) A (pyIter (.ref it)) Q E s
noncomputable abbrev TI := St -> Hp -> (It -> Hp -> Prop) -> Prop
noncomputable def PIE (X : Cx) (pins : List (Addr × Obj)) (σ : St) (tg : Expr) (R : It -> Hp -> Prop) (itv : Value) (s2 : Shared) : Prop :=
 ∃ (it : Addr) (fp : List Addr) (tn : Nat -> Heap -> Prop) (J : It) (H' : Hp), itv = .ref it /\ Inv X pins σ H' s2 /\ Turn X.prog X.w X.K tg J fp it tn /\ tn 0 s2.heap /\ (∀ b ∈ fp, FpOk X pins H' b) /\ R J H'
noncomputable def PI (X : Cx) (tg iter : Expr) (wi : TI) : Prop :=
 ∀ (pins : List (Addr × Obj)) (s : Shared) (σ : St) (H : Hp) (R : It -> Hp -> Prop), Inv X pins σ H s -> wi σ H R →
  wpAny (model X.prog X.w) X.A (eval iter X.env) (fun v s1 => wpAny (model X.prog X.w) X.A (pyIter v) (PIE X pins σ tg R) X.xe s1) X.xe s
theorem go_of {M : Model} {A : Around} {E : Value -> Shared -> Prop} {s : Shared} {tg : Expr} {it : Addr} {u : Value} {o : Obj} {n : String} {vs : Array Value} {Q : Unit -> Shared -> Prop} (ho : s.heap.get? it = some o) (hc : o.cls = .type n) (hd : o.data = .fields vs)
    (hn : ["enumerate", "zip", "dict_itemiterator", "dict_reverseitemiterator", "odict_iterator", "itertools.zip_longest", "itertools.pairwise"].contains n = false) (hQ : Q () s) : wpAny M A (letOwnedTupleGo tg (.ref it) u) Q E s := by
  unfold letOwnedTupleGo
  cases tg <;> first
    | exact wpAny_pure hQ
    | (cases u <;> first
        | exact wpAny_pure hQ
        | (refine wpAny_bind (wpAny_load ho ?_)
           rw [hc, hd]
           show wpAny M A (if (["enumerate", "zip", "dict_itemiterator", "dict_reverseitemiterator", "odict_iterator", "itertools.zip_longest", "itertools.pairwise"].contains n && vs[0]? == some (rawInt _)) = true then _ else _) Q E s
           rw [if_neg (by intro h; rw [hn, Bool.false_and] at h; cases h)]
           exact wpAny_pure hQ))
noncomputable def Itl (K : W.Frag) (a : Addr) : It :=
 ⟨fun i H => ∃ xs x, SqL K H a xs /\ xs[i]? = some x, fun i H x H' => H' = H /\ ∀ xs, SqL K H a xs -> xs[i]? = some x, fun i H => ∃ xs, SqL K H a xs /\ xs.length <= i⟩
noncomputable def Itt (K : W.Frag) (a : Addr) : It :=
 ⟨fun i H => ∃ xs x, SqT K H a xs /\ xs[i]? = some x, fun i H x H' => H' = H /\ ∀ xs, SqT K H a xs -> xs[i]? = some x, fun i H => ∃ xs, SqT K H a xs /\ xs.length <= i⟩
noncomputable def Itr (lo : Int) (n : Nat) : It := ⟨fun i _ => i < n, fun i H x H' => H' = H /\ x = .int (lo + i), fun i _ => n <= i⟩
theorem turn_list {P : Program} {w : World} {K : W.Frag} {tg : Expr} (a it : Addr) : Turn P w K tg (Itl K a) [it] it (fun i h => h.IsListIter it a i) where
 mem := by simp
 obj := fun i h st b hb => by
  have e : b = it := by simpa using hb
  subst e
  refine gz9 fun _ bk0 => ?_
  obtain ⟨o, e, c, d⟩ := st
  refine bk0 ?_
  exact ⟨o, e, fun v z => by rw [d] at z; cases z⟩
 keep := fun i h h' st k => st.at fun o e => k it (by simp) o e
 item := by
  intro X hP hw hK hc i pins s σ H E I hf st hg
  subst hP hw hK
  refine gz9 fun _ bk0 => ?_
  obtain ⟨xs, x, hq, hx⟩ := hg
  obtain ⟨its, rv, p, hz⟩ := I.list hq
  obtain ⟨u, hu, ru⟩ := rv.get hx
  obtain ⟨f0, f1, f2, f3, f4, f5⟩ := hf it (by simp)
  refine bk0 ?_
  refine wpAny_pyNext_list_item st p.isList (x := u) (by simpa using hu) fun h' st' sb => ?_
  have I1 : Inv X pins σ H { s with heap := h' } := I.turned (t' := s.toks) (fun b o hb e => (sb.2 b hb).trans e) f0 f1 f3 f4 f5
  refine gz9 fun _ bk0 => ?_
  obtain ⟨o, e, c, d⟩ := id st'
  refine bk0 ?_
  exact ⟨u, rfl, go_of (s := { s with heap := h' }) e c d (by decide) ⟨x, H, I1, ru, ⟨rfl, fun ys hy => by rw [I.list_inj hy hq]; exact hx⟩, st', fun b hb => (hf b hb).1⟩⟩
 done := by
  intro X hP hw hK hc i pins s σ H E I hf st hg
  subst hP hw hK
  refine gz9 fun _ bk0 => ?_
  obtain ⟨xs, hq, hx⟩ := hg
  obtain ⟨its, rv, p, hz⟩ := I.list hq
  obtain ⟨f0, f1, f2, f3, f4, f5⟩ := hf it (by simp)
  refine bk0 ?_
  have hl := rv.length
  exact wpAny_pyNext_list_end (I.ok.hd hc) st p.isList (by simp; (first | lia | omega)) fun h' eb => ⟨rfl, I.turned (t' := s.toks) (fun b o hb e => eb b o hb e) f0 f1 f3 f4 f5⟩
 self := fun _ _ _ _ _ st h => wpAny_pyIter_listiter st h
theorem turn_tuple {P : Program} {w : World} {K : W.Frag} {tg : Expr} (a it : Addr) : Turn P w K tg (Itt K a) [it] it (fun i h => h.IsTupleIter it a i) where
 mem := by simp
 obj := fun i h st b hb => by
  have e : b = it := by simpa using hb
  subst e
  refine gz9 fun _ bk0 => ?_
  obtain ⟨o, e, c, d⟩ := st
  refine bk0 ?_
  exact ⟨o, e, fun v z => by rw [d] at z; cases z⟩
 keep := fun i h h' st k => st.at fun o e => k it (by simp) o e
 item := by
  intro X hP hw hK hc i pins s σ H E I hf st hg
  subst hP hw hK
  refine gz9 fun _ bk0 => ?_
  obtain ⟨xs, x, hq, hx⟩ := hg
  obtain ⟨its, rv, p, hz⟩ := I.tuple hq
  obtain ⟨u, hu, ru⟩ := rv.get hx
  obtain ⟨f0, f1, f2, f3, f4, f5⟩ := hf it (by simp)
  refine bk0 ?_
  refine wpAny_pyNext_tuple_item st (show s.heap.IsTuple a its.toArray from p) (x := u) (by simpa using hu) fun h' st' sb => ?_
  have I1 : Inv X pins σ H { s with heap := h' } := I.turned (t' := s.toks) (fun b o hb e => (sb.2 b hb).trans e) f0 f1 f3 f4 f5
  refine gz9 fun _ bk0 => ?_
  obtain ⟨o, e, c, d⟩ := id st'
  refine bk0 ?_
  exact ⟨u, rfl, go_of (s := { s with heap := h' }) e c d (by decide) ⟨x, H, I1, ru, ⟨rfl, fun ys hy => by rw [I.tuple_inj hy hq]; exact hx⟩, st', fun b hb => (hf b hb).1⟩⟩
 done := by
  intro X hP hw hK hc i pins s σ H E I hf st hg
  subst hP hw hK
  refine gz9 fun _ bk0 => ?_
  obtain ⟨xs, hq, hx⟩ := hg
  obtain ⟨its, rv, p, hz⟩ := I.tuple hq
  obtain ⟨f0, f1, f2, f3, f4, f5⟩ := hf it (by simp)
  refine bk0 ?_
  have hl := rv.length
  exact wpAny_pyNext_tuple_end (I.ok.hd hc) st (show s.heap.IsTuple a its.toArray from p) (by simp; (first | lia | omega)) fun h' eb => ⟨rfl, I.turned (t' := s.toks) (fun b o hb e => eb b o hb e) f0 f1 f3 f4 f5⟩
 self := fun _ _ _ _ _ st h => wpAny_pyIter_tupleiter st h
theorem turn_range {P : Program} {w : World} {K : W.Frag} {tg : Expr} (it : Addr) (lo : Int) (n : Nat) : Turn P w K tg (Itr lo n) [it] it (fun i h => IsRangeIter h it (lo + (i : Nat) * 1) ((n : Int) - (i : Nat)) 1) where
 mem := by simp
 obj := fun i h st b hb => by
  have e : b = it := by simpa using hb
  subst e
  exact ⟨_, st, fun v z => by
   have z' : Data.fields _ = Data.cell v := z
   cases z'⟩
 keep := fun i h h' st k => k it (by simp) _ st
 item := by
  intro X hP hw hK hc i pins s σ H E I hf st hg
  subst hP hw hK
  refine gz9 fun _ bk0 => ?_
  obtain ⟨f0, f1, f2, f3, f4, f5⟩ := hf it (by simp)
  refine bk0 ?_
  have W := Walks.range (prog := X.prog) (w := X.w) (I.ok.hd hc) it lo 1 n
  refine W.item i s _ _ hg st fun v h' tk hv st' kk => ?_
  obtain ⟨t, rfl⟩ := hv
  have I1 : Inv X pins σ H { s with heap := h', toks := tk } := I.turned (fun b o hb e => kk b o (by simpa using hb) e) f0 f1 f3 f4 f5
  refine ⟨_, rfl, go_of (s := { s with heap := h', toks := tk }) (n := "range_iterator") st' rfl rfl (by decide) ⟨.int (lo + i), H, I1, ⟨t, ?_⟩, ⟨rfl, rfl⟩, st', fun b hb => (hf b hb).1⟩⟩
  rw [Int.mul_one]
 done := by
  intro X hP hw hK hc i pins s σ H E I hf st hg
  subst hP hw hK
  refine gz9 fun _ bk0 => ?_
  obtain ⟨f0, f1, f2, f3, f4, f5⟩ := hf it (by simp)
  refine bk0 ?_
  exact wpAny_pyNext_range_end (I.ok.hd hc) st (by have : n <= i := hg; (first | lia | omega)) fun h' eb => ⟨rfl, I.turned (t' := s.toks) (fun b o hb e => eb b o hb e) f0 f1 f3 f4 f5⟩
 self := fun _ _ _ _ _ st h => wpAny_pyIter_rangeiter st h
end L2
namespace L2
open PySem PySem.Spec PyProof.Rows
section
variable {X : Cx} {tg : Expr}
noncomputable def iList (K : W.Frag) (tl : TE) : TI := fun σ H R => tl σ H fun x H1 => ∃ a, x = .ref a /\ (∃ xs, SqL K H1 a xs) /\ R (Itl K a) H1
noncomputable def iTup (K : W.Frag) (tl : TE) : TI := fun σ H R => tl σ H fun x H1 => ∃ a, x = .ref a /\ (∃ xs, SqT K H1 a xs) /\ R (Itt K a) H1
theorem pi_list {l : Expr} {tl : TE} (hl : PE X l tl) : PI X tg l (iList X.K tl) := by
 intro pins s σ H R I h
 refine thn (hl pins s σ H _ I h) fun v s1 pk0 => ?_
 refine gz9 fun _ bk0 => ?_
 obtain ⟨x, H1, I1, r1, q1⟩ := pk0
 obtain ⟨a, e, ⟨xs, hq⟩, q⟩ := q1
 refine bk0 ?_
 subst e
 cases r1
 refine gz9 fun _ bk0 => ?_
 obtain ⟨its, rv, p, hz⟩ := I1.list hq
 refine bk0 ?_
 refine wpAny_pyIter_list p.isList ?_
 refine ⟨s1.heap.objs.size, [s1.heap.objs.size], _, _, H1, rfl, I1.kept (t' := s1.toks) fun b o e => Heap.get?_push_of_some _ e, turn_list a _, ⟨_, Heap.get?_push_size _ rfl, rfl, rfl⟩, fun b hb => ?_, q⟩
 have e : b = s1.heap.objs.size := by simpa using hb
 subst e
 exact I1.fpOk (Nat.le_refl _) (I1.hok.fresh (Nat.le_refl _))
theorem pi_tup {l : Expr} {tl : TE} (hl : PE X l tl) : PI X tg l (iTup X.K tl) := by
 intro pins s σ H R I h
 refine thn (hl pins s σ H _ I h) fun v s1 pk0 => ?_
 refine gz9 fun _ bk0 => ?_
 obtain ⟨x, H1, I1, r1, q1⟩ := pk0
 obtain ⟨a, e, ⟨xs, hq⟩, q⟩ := q1
 refine bk0 ?_
 subst e
 cases r1
 refine gz9 fun _ bk0 => ?_
 obtain ⟨its, rv, p, hz⟩ := I1.tuple hq
 refine bk0 ?_
 refine wpAny_pyIter_tuple (show s1.heap.IsTuple a its.toArray from p) ?_
 refine ⟨s1.heap.objs.size, [s1.heap.objs.size], _, _, H1, rfl, I1.kept (t' := s1.toks) fun b o e => Heap.get?_push_of_some _ e, turn_tuple a _, ⟨_, Heap.get?_push_size _ rfl, rfl, rfl⟩, fun b hb => ?_, q⟩
 have e : b = s1.heap.objs.size := by simpa using hb
 subst e
 exact I1.fpOk (Nat.le_refl _) (I1.hok.fresh (Nat.le_refl _))
theorem range_it {pins : List (Addr × Obj)} {σ : St} {H : Hp} {s : Shared} {R : It -> Hp -> Prop} {E : Value -> Shared -> Prop} {lo hi : Int} {t u v : Tok} {tk : Nat} (I : Inv X pins σ H s) (h1 : -(2 ^ 62) <= lo) (h2 : lo < 2 ^ 62) (h3 : -(2 ^ 62) <= hi) (h4 : hi < 2 ^ 62)
  (q : R (Itr lo (hi - lo).toNat) H) : wpAny (model X.prog X.w) X.A (pyIter (.ref s.heap.objs.size)) (PIE X pins σ tg R) E { s with heap := s.heap.push { cls := .type "range", data := .fields #[.int lo t, .int hi u, .int 1 v] }, toks := tk } := by
 refine wpAny_pyIter_range (IsRange.new ..) (small_one h1 h2 h3 h4) ?_
 have I1 : Inv X pins σ H { s with heap := s.heap.push { cls := .type "range", data := .fields #[.int lo t, .int hi u, .int 1 v] }, toks := tk } := I.kept fun b o e => Heap.get?_push_of_some _ e
 refine ⟨(s.heap.push { cls := .type "range", data := .fields #[.int lo t, .int hi u, .int 1 v] }).objs.size, [(s.heap.push { cls := .type "range", data := .fields #[.int lo t, .int hi u, .int 1 v] }).objs.size], _, _, H, rfl,
  I1.kept (t' := tk) fun b o e => Heap.get?_push_of_some _ e, turn_range _ lo (hi - lo).toNat, ?_, fun b hb => ?_, q⟩
 ·have e1 : lo + ((0 : Nat) : Int) * 1 = lo := by simp
  have e2 : (((hi - lo).toNat : Nat) : Int) - ((0 : Nat) : Int) = Builtin.Range.rangeSize lo hi 1 := by rw [rangeSize_one]; split <;> (first | lia | omega)
  show IsRangeIter _ _ (lo + ((0 : Nat) : Int) * 1) ((((hi - lo).toNat : Nat) : Int) - ((0 : Nat) : Int)) 1
  rw [e1, e2]
  exact Heap.get?_push_size _ rfl
 ·have e : b = (s.heap.push { cls := .type "range", data := .fields #[.int lo t, .int hi u, .int 1 v] }).objs.size := by simpa using hb
  subst e
  exact I1.fpOk (Nat.le_refl _) (I1.hok.fresh (Nat.le_refl _))
noncomputable def iRng1 (ta : TA) : TI := fun σ H R => ta σ H fun vs H1 => ∃ j : Int, vs = [.int j] /\ -(2 ^ 62) <= j /\ j < 2 ^ 62 /\ R (Itr 0 j.toNat) H1
noncomputable def iRng2 (ta : TA) : TI := fun σ H R => ta σ H fun vs H1 => ∃ i j : Int, vs = [.int i, .int j] /\ (-(2 ^ 62) <= i /\ i < 2 ^ 62 /\ -(2 ^ 62) <= j /\ j < 2 ^ 62) /\ R (Itr i (j - i).toNat) H1
theorem pi_range1 {a : Expr} {ta : TA} {p pos : Pos} (hg : Gl X "range") (hm : X.mg "range" = none) (ha : PA X [a] ta) (hs : starEach [a] X.env = [(false, eval a X.env)] := by rfl) : PI X tg (.Call (.Name "range" p) [a] [] pos) (iRng1 ta) := by
 intro pins s σ H R I h
 refine Call_ (ld_blt I hg hm boot_range (PyProof.Rows.callWith_type1 (thn (ha pos pins s σ H _ I h) fun us s1 pk0 => ?_) hs rfl))
 refine gz9 fun _ bk0 => ?_
 obtain ⟨vs, H1, I1, r1, q1⟩ := pk0
 obtain ⟨j, e, q1, q2, q⟩ := q1
 refine bk0 ?_
 subst e
 cases r1 with
 | cons r rr =>
  cases rr
  obtain ⟨t, rfl⟩ := r
  exact call_range_1 (range_it I1 (by (first | lia | omega)) (by (first | lia | omega)) q1 q2 (by simpa using q))
noncomputable def tFor (wi : TI) (g : TG) (tb : TS) : TS := fun D σ H => wi σ H fun J H1 => ∃ W : Nat -> Nat -> St -> Hp -> Prop, (∃ m, W 0 m σ H1) /\ ∀ i m σ H, W i m σ H →
 (J.stop i H /\ D.nx σ H) \/ (J.go i H /\ ∃ N : St -> Hp -> Prop, (∀ σ' H', N σ' H' -> ∃ m', m' < m /\ W (i + 1) m' σ' H') /\ ∀ x H', J.yld i H x H' -> g x σ H' fun σ2 H2 => tb { D with nx := N, ct := N, bk := D.nx } σ2 H2)
noncomputable def pinsAt (fp : List Addr) (h : Heap) : List (Addr × Obj) := fp.filterMap fun b => (h.get? b).map fun o => (b, o)
theorem mem_pinsAt {fp : List Addr} {h : Heap} {b : Addr} {o : Obj} (hb : b ∈ fp) (e : h.get? b = some o) : (b, o) ∈ pinsAt fp h := List.mem_filterMap.mpr ⟨b, hb, by rw [e]; rfl⟩
theorem of_pinsAt {fp : List Addr} {h : Heap} {p : Addr × Obj} (hp : p ∈ pinsAt fp h) : p.1 ∈ fp /\ h.get? p.1 = some p.2 := by
 obtain ⟨b, hb, e⟩ := List.mem_filterMap.mp hp
 cases q : h.get? b with
 | none => rw [q] at e; cases e
 | some o =>
  rw [q] at e
  have e' : (b, o) = p := Option.some.inj e
  subst e'
  exact ⟨hb, q⟩
theorem Inv.pinned {pins : List (Addr × Obj)} {σ : St} {H : Hp} {s : Shared} {fp : List Addr} (I : Inv X pins σ H s) (hf : ∀ b ∈ fp, FpOk X pins H b) (ho : ∀ b ∈ fp, ∃ o, s.heap.get? b = some o /\ ∀ v, o.data ≠ .cell v) : Inv X (pins ++ pinsAt fp s.heap) σ H s :=
 I.pins_of fun p hp => (List.mem_append.mp hp).elim (fun z => I.pin p (List.mem_append_right _ z)) fun z => by
  refine gz9 fun _ bk0 => ?_
  obtain ⟨hb, e⟩ := of_pinsAt z
  obtain ⟨f0, f1, f2, _⟩ := hf p.1 hb
  obtain ⟨o, e', d⟩ := ho p.1 hb
  refine bk0 ?_
  rw [e] at e'; cases e'
  exact ⟨e, f0, f1, f2, d⟩
theorem Inv.unpinned {pins pl : List (Addr × Obj)} {σ : St} {H : Hp} {s : Shared} (I : Inv X (pins ++ pl) σ H s) : Inv X pins σ H s := I.pins_of fun p hp => I.pin p (List.mem_append_right _ (List.mem_append_left _ hp))
theorem ps_for {iter : Expr} {body : List Stmt} {wi : TI} {g : TG} {tb : TS} {pos : Pos} (hp : PassesOwn (model X.prog X.w) X.A X.env X.xe) (hc : X.calm = true) (hi : PI X tg iter wi) (hg : PG X tg g) (hb : PSs X body tb)
  (hs : ∀ x, foldedSetIterable iter X.env x = pure x := by intro _; rfl) : PS X (.For tg iter body [] pos) (tFor wi g tb) := by
 intro pins s σ H D I h
 refine wpAny_For (thn (hi pins s σ H _ I h) fun v s1 h1 => thn h1 fun itv s2 h2 => ?_) hs
 refine gz9 fun _ bk0 => ?_
 obtain ⟨it, fp, tn, J, H2, e, I2, T, st2, f2, W, ⟨m0, w0⟩, turn⟩ := h2
 refine bk0 ?_
 subst e
 have stat : ∀ {H' : Hp}, (∀ b ∈ fp, H' b = none) -> ∀ b ∈ fp, FpOk X pins H' b := fun hn b hb => ⟨hn b hb, (f2 b hb).2⟩
 refine codeAny_forLoop_any (fun n s' => ∃ i σ' H', Inv X pins σ' H' s' /\ tn i s'.heap /\ (∀ b ∈ fp, H' b = none) /\ W i n σ' H') ?_ m0 ⟨0, σ, H2, I2, st2, fun b hb => (f2 b hb).1, w0⟩
 rintro n s3 ⟨i, σ3, H3, I3, st3, fr3, w3⟩
 rcases turn i n σ3 H3 w3 with ⟨stop, qn⟩ | ⟨go, N, hN, step⟩
 ·refine wpAny_passesOwn hp (thn (T.done X rfl rfl rfl hc i pins s3 σ3 H3 X.xe I3 (stat fr3) st3 stop) fun r s4 pk0 => ?_)
  obtain ⟨hr, I4⟩ := pk0
  subst hr
  exact wpAny_execs_nil ⟨σ3, H3, I4, qn⟩
 ·refine wpAny_passesOwn hp (thn (T.item X rfl rfl rfl hc i pins s3 σ3 H3 X.xe I3 (stat fr3) st3 go) fun r s4 pk0 => ?_)
  obtain ⟨u, hr, h4⟩ := pk0
  subst hr
  refine wpAny_passesOwn hp (thn h4 fun _ s5 pk0 => ?_)
  refine gz9 fun _ bk0 => ?_
  obtain ⟨x, H5, I5, r5, y5, st5, fr5⟩ := pk0
  refine bk0 ?_
  have I5' := I5.pinned (stat fr5) (T.obj _ _ st5)
  refine wpAny_passesOwn hp (thn (hg _ s5 σ3 H5 x u _ I5' r5 (step x H5 y5)) fun _ s6 pk0 => ?_)
  refine gz9 fun _ bk0 => ?_
  obtain ⟨σ6, H6, I6, q6⟩ := pk0
  refine bk0 ?_
  refine wpAny_passesOwn hp (thn (hb _ s6 σ6 H6 _ I6 q6) fun f s7 q7 => ?_)
  have again : ∀ {σ7 : St} {H7 : Hp}, Inv X (pins ++ pinsAt fp s5.heap) σ7 H7 s7 -> N σ7 H7 -> ∃ m, m < n /\ ∃ i σ' H', Inv X pins σ' H' s7 /\ tn i s7.heap /\ (∀ b ∈ fp, H' b = none) /\ W i m σ' H' := fun {σ7 H7} I7 n7 => by
   obtain ⟨m', hm, w7⟩ := hN σ7 H7 n7
   refine ⟨m', hm, i + 1, σ7, H7, I7.unpinned, T.keep _ _ _ st5 fun b hb o e => (I7.pin (b, o) (List.mem_append_right _ (List.mem_append_right _ (mem_pinsAt hb e)))).1, fun b hb => ?_, w7⟩
   obtain ⟨o, e, d⟩ := T.obj _ _ st5 b hb
   exact (I7.pin (b, o) (List.mem_append_right _ (List.mem_append_right _ (mem_pinsAt hb e)))).2.1
  cases f with
  | next => obtain ⟨σ7, H7, I7, n7⟩ := q7; exact again I7 n7
  | cont => obtain ⟨σ7, H7, I7, n7⟩ := q7; exact again I7 n7
  | brk => obtain ⟨σ7, H7, I7, q7⟩ := q7; exact ⟨σ7, H7, I7.unpinned, q7⟩
  | ret v => obtain ⟨x7, σ7, H7, I7, r7, q7⟩ := q7; exact ⟨x7, σ7, H7, I7.unpinned, r7, q7⟩
end
theorem for_list {K : W.Frag} {a : Addr} {xs : List V} {g : TG} {tb : TS} {D : Ends} {σ : St} {H : Hp} (Pv : Nat -> St -> Hp -> Prop) (h0 : Pv 0 σ H) (hl : ∀ i σ H, i <= xs.length -> Pv i σ H -> SqL K H a xs)
  (hs : ∀ i x σ H, xs[i]? = some x -> Pv i σ H -> g x σ H fun σ2 H2 => tb { D with nx := Pv (i + 1), ct := Pv (i + 1), bk := D.nx } σ2 H2) (hd : ∀ σ H, Pv xs.length σ H -> D.nx σ H) :
  ∃ W : Nat -> Nat -> St -> Hp -> Prop, (∃ m, W 0 m σ H) /\ ∀ i m σ H, W i m σ H →
   ((Itl K a).stop i H /\ D.nx σ H) \/ ((Itl K a).go i H /\ ∃ N : St -> Hp -> Prop, (∀ σ' H', N σ' H' -> ∃ m', m' < m /\ W (i + 1) m' σ' H') /\ ∀ x H', (Itl K a).yld i H x H' -> g x σ H' fun σ2 H2 => tb { D with nx := N, ct := N, bk := D.nx } σ2 H2) := by
 refine ⟨fun i m σ H => m = xs.length - i /\ i <= xs.length /\ Pv i σ H, ⟨xs.length, by simp, Nat.zero_le _, h0⟩, ?_⟩
 rintro i m σ H ⟨rfl, hi, p⟩
 have q := hl i σ H hi p
 by_cases hlt : i < xs.length
 ·refine .inr ⟨⟨xs, xs[i], q, by simp [hlt]⟩, Pv (i + 1), fun σ' H' p' => ⟨xs.length - (i + 1), by (first | lia | omega), rfl, hlt, p'⟩, fun x H' y => ?_⟩
  obtain ⟨e, y⟩ := y
  subst e
  exact hs i x σ _ (y xs q) p
 ·have e : i = xs.length := by (first | lia | omega)
  subst e
  exact .inl ⟨⟨xs, q, Nat.le_refl _⟩, hd σ H p⟩
theorem for_tup {K : W.Frag} {a : Addr} {xs : List V} {g : TG} {tb : TS} {D : Ends} {σ : St} {H : Hp} (Pv : Nat -> St -> Hp -> Prop) (h0 : Pv 0 σ H) (hl : ∀ i σ H, i <= xs.length -> Pv i σ H -> SqT K H a xs)
  (hs : ∀ i x σ H, xs[i]? = some x -> Pv i σ H -> g x σ H fun σ2 H2 => tb { D with nx := Pv (i + 1), ct := Pv (i + 1), bk := D.nx } σ2 H2) (hd : ∀ σ H, Pv xs.length σ H -> D.nx σ H) :
  ∃ W : Nat -> Nat -> St -> Hp -> Prop, (∃ m, W 0 m σ H) /\ ∀ i m σ H, W i m σ H →
   ((Itt K a).stop i H /\ D.nx σ H) \/ ((Itt K a).go i H /\ ∃ N : St -> Hp -> Prop, (∀ σ' H', N σ' H' -> ∃ m', m' < m /\ W (i + 1) m' σ' H') /\ ∀ x H', (Itt K a).yld i H x H' -> g x σ H' fun σ2 H2 => tb { D with nx := N, ct := N, bk := D.nx } σ2 H2) := by
 refine ⟨fun i m σ H => m = xs.length - i /\ i <= xs.length /\ Pv i σ H, ⟨xs.length, by simp, Nat.zero_le _, h0⟩, ?_⟩
 rintro i m σ H ⟨rfl, hi, p⟩
 have q := hl i σ H hi p
 by_cases hlt : i < xs.length
 ·refine .inr ⟨⟨xs, xs[i], q, by simp [hlt]⟩, Pv (i + 1), fun σ' H' p' => ⟨xs.length - (i + 1), by (first | lia | omega), rfl, hlt, p'⟩, fun x H' y => ?_⟩
  obtain ⟨e, y⟩ := y
  subst e
  exact hs i x σ _ (y xs q) p
 ·have e : i = xs.length := by (first | lia | omega)
  subst e
  exact .inl ⟨⟨xs, q, Nat.le_refl _⟩, hd σ H p⟩
theorem for_range {lo : Int} {n : Nat} {g : TG} {tb : TS} {D : Ends} {σ : St} {H : Hp} (Pv : Nat -> St -> Hp -> Prop) (h0 : Pv 0 σ H)
  (hs : ∀ i σ H, i < n -> Pv i σ H -> g (.int (lo + i)) σ H fun σ2 H2 => tb { D with nx := Pv (i + 1), ct := Pv (i + 1), bk := D.nx } σ2 H2) (hd : ∀ σ H, Pv n σ H -> D.nx σ H) :
  ∃ W : Nat -> Nat -> St -> Hp -> Prop, (∃ m, W 0 m σ H) /\ ∀ i m σ H, W i m σ H →
   ((Itr lo n).stop i H /\ D.nx σ H) \/ ((Itr lo n).go i H /\ ∃ N : St -> Hp -> Prop, (∀ σ' H', N σ' H' -> ∃ m', m' < m /\ W (i + 1) m' σ' H') /\ ∀ x H', (Itr lo n).yld i H x H' -> g x σ H' fun σ2 H2 => tb { D with nx := N, ct := N, bk := D.nx } σ2 H2) := by
 refine ⟨fun i m σ H => m = n - i /\ i <= n /\ Pv i σ H, ⟨n, by simp, Nat.zero_le _, h0⟩, ?_⟩
 rintro i m σ H ⟨rfl, hi, p⟩
 by_cases hlt : i < n
 ·refine .inr ⟨hlt, Pv (i + 1), fun σ' H' p' => ⟨n - (i + 1), by (first | lia | omega), rfl, hlt, p'⟩, fun x H' y => ?_⟩
  obtain ⟨e, y⟩ := y
  subst e y
  exact hs i σ _ hlt p
 ·have e : i = n := by (first | lia | omega)
  subst e
  exact .inl ⟨Nat.le_refl _, hd σ H p⟩
end L2
namespace L2
open PySem PySem.Spec PyProof.Rows
noncomputable abbrev R2 := V -> V -> Hp -> VK -> Prop
noncomputable def OpR (X : Cx) (f : Value -> Value -> Sem Value) (r : R2) : Prop :=
 ∀ (pins : List (Addr × Obj)) (s : Shared) (σ : St) (H : Hp) (x y : V) (v u : Value) (Q : VK), Inv X pins σ H s -> RelV x v -> RelV y u -> r x y H Q →
  wpAny (model X.prog X.w) X.A (f v u) (EP X pins σ Q) X.xe s
noncomputable def UnR (X : Cx) (f : Value -> Sem Value) (r : V -> Hp -> VK -> Prop) : Prop :=
 ∀ (pins : List (Addr × Obj)) (s : Shared) (σ : St) (H : Hp) (x : V) (v : Value) (Q : VK), Inv X pins σ H s -> RelV x v -> r x H Q →
  wpAny (model X.prog X.w) X.A (f v) (EP X pins σ Q) X.xe s
noncomputable def CallR (X : Cx) (f : Value) (r : List V -> Hp -> VK -> Prop) : Prop :=
 ∀ (pins : List (Addr × Obj)) (s : Shared) (σ : St) (H : Hp) (xs : List V) (us : List Value) (Q : VK), Inv X pins σ H s -> Vals xs us -> r xs H Q →
  wpAny (model X.prog X.w) X.A (call f us) (EP X pins σ Q) X.xe s
noncomputable def TruR (X : Cx) (r : V -> Hp -> (Bool -> Hp -> Prop) -> Prop) : Prop :=
 ∀ (pins : List (Addr × Obj)) (s : Shared) (σ : St) (H : Hp) (x : V) (v : Value) (Q : Bool -> Hp -> Prop), Inv X pins σ H s -> RelV x v -> r x H Q →
  wpAny (model X.prog X.w) X.A (truthy v) (TP X pins σ Q) X.xe s
noncomputable def tOp (r : R2) (ta tb : TE) : TE := fun σ H Q => ta σ H fun x H1 => tb σ H1 fun y H2 => r x y H2 Q
noncomputable def tUn (r : V -> Hp -> VK -> Prop) (ta : TE) : TE := fun σ H Q => ta σ H fun x H1 => r x H1 Q
noncomputable def rI (C : Int -> Int -> Prop) (g : Int -> Int -> V) : R2 := fun x y H Q => ∃ i j, x = .int i /\ y = .int j /\ C i j /\ Q (g i j) H
noncomputable def rI0 (g : Int -> Int -> V) : R2 := fun x y H Q => ∃ i j, x = .int i /\ y = .int j /\ Q (g i j) H
noncomputable def rU (g : Int -> V) : V -> Hp -> VK -> Prop := fun x H Q => ∃ i, x = .int i /\ Q (g i) H
section
variable {X : Cx} {a b c : Expr} {ta tb tc : TE} {pos : Pos}
theorem binT (ha : PE X a ta) (hb : PE X b tb) {pins : List (Addr × Obj)} {s : Shared} {σ : St} {H : Hp} {R : V -> V -> Hp -> Prop} (I : Inv X pins σ H s)
  (h : ta σ H fun x H1 => tb σ H1 fun y H2 => R x y H2) {Q : Value -> Shared -> Prop} {f : Value -> Value -> Sem Value}
  (hf : ∀ v u s2 x y H2, Inv X pins σ H2 s2 -> RelV x v -> RelV y u -> R x y H2 -> wpAny (model X.prog X.w) X.A (f v u) Q X.xe s2) :
  wpAny (model X.prog X.w) X.A (eval a X.env) (fun v s₁ => wpAny (model X.prog X.w) X.A (eval b X.env) (fun u s₂ => wpAny (model X.prog X.w) X.A (f v u) Q X.xe s₂) X.xe s₁) X.xe s := by
 refine thn (ha pins s σ H _ I h) fun v s1 pk0 => ?_
 refine gz9 fun _ bk0 => ?_
 obtain ⟨x, H1, I1, r1, q1⟩ := pk0
 refine bk0 ?_
 refine thn (hb pins s1 σ H1 _ I1 q1) fun u s2 pk0 => ?_
 refine gz9 fun _ bk0 => ?_
 obtain ⟨y, H2, I2, r2, q2⟩ := pk0
 refine bk0 ?_
 exact hf v u s2 x y H2 I2 r1 r2 q2
theorem pe_op {op : Operator} {r : R2} (ho : OpR X (binaryOp op) r) (ha : PE X a ta) (hb : PE X b tb) : PE X (.BinOp a op b pos) (tOp r ta tb) := by
 intro pins s σ H Q I h
 exact wpAny_BinOp (binT ha hb I h fun v u s2 x y H2 I2 rx ry q => ho pins s2 σ H2 x y v u Q I2 rx ry q)
theorem pe_un {op : UnaryOp} {r : V -> Hp -> VK -> Prop} (ho : UnR X (unaryOp op) r) (ha : PE X a ta) : PE X (.UnaryOp op a pos) (tUn r ta) := by
 intro pins s σ H Q I h
 refine UnaryOp_ (thn (ha pins s σ H _ I h) fun v s1 pk0 => ?_)
 refine gz9 fun _ bk0 => ?_
 obtain ⟨x, H1, I1, r1, q1⟩ := pk0
 refine bk0 ?_
 exact ho pins s1 σ H1 x v Q I1 r1 q1
theorem opI {f : Value -> Value -> Sem Value} {C : Int -> Int -> Prop} {g : Int -> Int -> Int}
  (rule : ∀ (i j : Int) (t u : Tok) (s : Shared) (Q : Value -> Shared -> Prop) (E : Value -> Shared -> Prop), C i j -> Q (.int (g i j) s.toks) { s with toks := s.toks + 1 } -> wpAny (model X.prog X.w) X.A (f (.int i t) (.int j u)) Q E s) :
  OpR X f (rI C fun i j => .int (g i j)) := by
 intro pins s σ H x y v u Q I rx ry h
 refine gz9 fun _ bk0 => ?_
 obtain ⟨i, j, rfl, rfl, hc, q⟩ := h
 obtain ⟨t, rfl⟩ := rx
 obtain ⟨t', rfl⟩ := ry
 refine bk0 ?_
 exact rule i j t t' s _ _ hc ⟨.int (g i j), H, I.tok _, ⟨_, rfl⟩, q⟩
theorem opI0 {f : Value -> Value -> Sem Value} {g : Int -> Int -> Int}
  (rule : ∀ (i j : Int) (t u : Tok) (s : Shared) (Q : Value -> Shared -> Prop) (E : Value -> Shared -> Prop), Q (.int (g i j) s.toks) { s with toks := s.toks + 1 } -> wpAny (model X.prog X.w) X.A (f (.int i t) (.int j u)) Q E s) :
  OpR X f (rI0 fun i j => .int (g i j)) := by
 intro pins s σ H x y v u Q I rx ry h
 refine gz9 fun _ bk0 => ?_
 obtain ⟨i, j, rfl, rfl, q⟩ := h
 obtain ⟨t, rfl⟩ := rx
 obtain ⟨t', rfl⟩ := ry
 refine bk0 ?_
 exact rule i j t t' s _ _ ⟨.int (g i j), H, I.tok _, ⟨_, rfl⟩, q⟩
theorem opB0 {f : Value -> Value -> Sem Value} {g : Int -> Int -> Bool}
  (rule : ∀ (i j : Int) (t u : Tok) (s : Shared) (Q : Value -> Shared -> Prop) (E : Value -> Shared -> Prop), Q (.bool (g i j)) s -> wpAny (model X.prog X.w) X.A (f (.int i t) (.int j u)) Q E s) :
  OpR X f (rI0 fun i j => .bl (g i j)) := by
 intro pins s σ H x y v u Q I rx ry h
 refine gz9 fun _ bk0 => ?_
 obtain ⟨i, j, rfl, rfl, q⟩ := h
 obtain ⟨t, rfl⟩ := rx
 obtain ⟨t', rfl⟩ := ry
 refine bk0 ?_
 exact rule i j t t' s _ _ ⟨.bl (g i j), H, I, rfl, q⟩
noncomputable def CDiv (i j : Int) : Prop := 0 < j /\ j < 1073741824
noncomputable def CDivN (i j : Int) : Prop := j ≠ 0 /\ j.natAbs < 1073741824
noncomputable def CPow (i j : Int) : Prop := 0 <= j /\ j <= 1000000 /\ i.natAbs < 2 ^ 64
noncomputable def CMul (i j : Int) : Prop := (-(2 ^ 64) < i /\ i < 2 ^ 64) \/ (-(2 ^ 64) < j /\ j < 2 ^ 64)
theorem CMul.ok {i j : Int} (h : CMul i j) : IntMulOk i j := by
 rcases h with ⟨h1, h2⟩ | ⟨h1, h2⟩
 ·exact .of_left (intBits_le_64 h1 h2)
 ·exact .of_right (intBits_le_64 h1 h2)
theorem op_add : OpR X (binaryOp .Add) (rI0 fun i j => .int (i + j)) := opI0 fun _ _ _ _ _ _ _ q => add_int q
theorem op_sub : OpR X (binaryOp .Sub) (rI0 fun i j => .int (i - j)) := opI0 fun _ _ _ _ _ _ _ q => sub_int q
theorem op_mul : OpR X (binaryOp .Mult) (rI CMul fun i j => .int (i * j)) := opI fun _ _ _ _ _ _ _ hc q => mul_int q hc.ok
theorem op_fdiv : OpR X (binaryOp .FloorDiv) (rI CDiv fun i j => .int (i / j)) := opI fun i j _ _ _ _ _ hc q => by
 have h1 : (0 : Int) < j := hc.1
 have h2 : j < 1073741824 := hc.2
 exact floordiv_int (by (first | lia | omega)) (by rw [Int.fdiv_eq_ediv_of_nonneg i (by (first | lia | omega))]; exact q) (.inl (PyProof.noPylong_small (by (first | lia | omega))))
theorem op_mod : OpR X (binaryOp .Mod) (rI (fun _ j => 0 < j) fun i j => .int (i % j)) := opI fun i j _ _ _ _ _ hc q => by
 have h1 : (0 : Int) < j := hc
 exact mod_int' (by (first | lia | omega)) (by rw [Int.fmod_eq_emod_of_nonneg i (by (first | lia | omega))]; exact q)
theorem op_pow : OpR X (binaryOp .Pow) (rI CPow fun i j => .int (i ^ j.toNat)) := opI fun _ _ _ _ _ _ _ hc q => pow_int_small hc.1 hc.2.1 hc.2.2 q
theorem unI {f : Value -> Sem Value} {g : Int -> Int}
  (rule : ∀ (i : Int) (t : Tok) (s : Shared) (Q : Value -> Shared -> Prop) (E : Value -> Shared -> Prop), Q (.int (g i) s.toks) { s with toks := s.toks + 1 } -> wpAny (model X.prog X.w) X.A (f (.int i t)) Q E s) :
  UnR X f (rU fun i => .int (g i)) := by
 intro pins s σ H x v Q I rx h
 refine gz9 fun _ bk0 => ?_
 obtain ⟨i, rfl, q⟩ := h
 obtain ⟨t, rfl⟩ := rx
 refine bk0 ?_
 exact rule i t s _ _ ⟨.int (g i), H, I.tok _, ⟨_, rfl⟩, q⟩
theorem un_neg : UnR X (unaryOp .USub) (rU fun i => .int (-i)) := unI fun _ _ _ _ _ q => neg_int q
end
noncomputable def scal : V -> V -> Bool
 | .non, .non => true | .non, .int _ => true | .int _, .non => true | .non, .bl _ => true | .bl _, .non => true | .non, .str _ => true | .str _, .non => true
 | .int _, .int _ => true | .bl _, .bl _ => true | .str _, .str _ => true | .byt _, .byt _ => true
 | .int _, .str _ => true | .str _, .int _ => true | .bl _, .str _ => true | .str _, .bl _ => true
 | _, _ => false
noncomputable def rEq : R2 := fun x y H Q => scal x y = true /\ Q (.bl (decide (x = y))) H
noncomputable def rNe : R2 := fun x y H Q => scal x y = true /\ Q (.bl (!decide (x = y))) H
theorem dec_int {i j : Int} : decide (V.int i = V.int j) = (i == j) := by
 rw [Bool.eq_iff_iff]
 simp
theorem dec_bl {i j : Bool} : decide (V.bl i = V.bl j) = (i == j) := by
 rw [Bool.eq_iff_iff]
 simp
theorem dec_str {i j : Str} : decide (V.str i = V.str j) = (i == j) := by
 rw [Bool.eq_iff_iff]
 simp
theorem dec_byt {i j : Array UInt8} : decide (V.byt i = V.byt j) = (i.toList == j.toList) := by
 rw [Bool.eq_iff_iff]
 cases i
 cases j
 simp
section
variable {X : Cx} {a b c : Expr} {ta tb tc : TE} {pos : Pos}
theorem fin_bl {pins : List (Addr × Obj)} {σ : St} {H : Hp} {s : Shared} {Q : VK} {k k' : Bool} (I : Inv X pins σ H s) (q : Q (.bl k) H) (e : k = k') : EP X pins σ Q (.bool k') s := by
 subst e
 exact ⟨.bl k, H, I, rfl, q⟩
theorem op_eq : OpR X (compareOp .Eq) rEq := by
 intro pins s σ H x y v u Q I rx ry h
 obtain ⟨hs, q⟩ := h
 cases x with
 | non =>
  cases rx
  cases y with
  | non => cases ry; exact PySem.EqNone.eq_none_none (fin_bl I q (by simp))
  | bl j => cases ry; exact PySem.EqNone.eq_none_bool (fin_bl I q (by simp))
  | int j => obtain ⟨t', rfl⟩ := ry; exact PySem.EqNone.eq_none_int (fin_bl I q (by simp))
  | str j => obtain ⟨t', rfl⟩ := ry; exact PySem.EqNone.eq_none_str (fin_bl I q (by simp))
  | _ => exact absurd (show false = true from hs) Bool.false_ne_true
 | bl i =>
  cases rx
  cases y with
  | non => cases ry; exact PySem.EqNone.eq_bool_none (fin_bl I q (by simp))
  | bl j => cases ry; exact eq_bool (fin_bl I q dec_bl)
  | str j => obtain ⟨t', rfl⟩ := ry; exact PySem.EqMixed.eq_bool_str (fin_bl I q (by simp))
  | _ => exact absurd (show false = true from hs) Bool.false_ne_true
 | int i =>
  obtain ⟨t, rfl⟩ := rx
  cases y with
  | non => cases ry; exact PySem.EqNone.eq_int_none (fin_bl I q (by simp))
  | int j => obtain ⟨t', rfl⟩ := ry; exact eq_int (fin_bl I q dec_int)
  | str j => obtain ⟨t', rfl⟩ := ry; exact PySem.EqMixed.eq_int_str (fin_bl I q (by simp))
  | _ => exact absurd (show false = true from hs) Bool.false_ne_true
 | str i =>
  obtain ⟨t, rfl⟩ := rx
  cases y with
  | non => cases ry; exact PySem.EqNone.eq_str_none (fin_bl I q (by simp))
  | bl j => cases ry; exact PySem.EqMixed.eq_str_bool (fin_bl I q (by simp))
  | int j => obtain ⟨t', rfl⟩ := ry; exact PySem.EqMixed.eq_str_int (fin_bl I q (by simp))
  | str j => obtain ⟨t', rfl⟩ := ry; exact eq_str (fin_bl I q dec_str)
  | _ => exact absurd (show false = true from hs) Bool.false_ne_true
 | byt i =>
  obtain ⟨t, rfl⟩ := rx
  cases y with
  | byt j => obtain ⟨t', rfl⟩ := ry; exact PySem.W.eq_bytes (fin_bl I q dec_byt)
  | _ => exact absurd (show false = true from hs) Bool.false_ne_true
 | _ => cases y <;> exact absurd (show false = true from hs) Bool.false_ne_true
theorem op_ne : OpR X (compareOp .NotEq) rNe := by
 intro pins s σ H x y v u Q I rx ry h
 obtain ⟨hs, q⟩ := h
 cases x with
 | non =>
  cases rx
  cases y with
  | non => cases ry; exact PySem.EqNone.ne_none_none (fin_bl I q (by simp))
  | bl j => cases ry; exact PySem.EqNone.ne_none_bool (fin_bl I q (by simp))
  | int j => obtain ⟨t', rfl⟩ := ry; exact PySem.EqNone.ne_none_int (fin_bl I q (by simp))
  | str j => obtain ⟨t', rfl⟩ := ry; exact PySem.EqNone.ne_none_str (fin_bl I q (by simp))
  | _ => exact absurd (show false = true from hs) Bool.false_ne_true
 | bl i =>
  cases rx
  cases y with
  | non => cases ry; exact PySem.EqNone.ne_bool_none (fin_bl I q (by simp))
  | bl j => cases ry; exact ne_bool (fin_bl I q (congrArg not dec_bl))
  | str j => obtain ⟨t', rfl⟩ := ry; exact PySem.EqMixed.ne_bool_str (fin_bl I q (by simp))
  | _ => exact absurd (show false = true from hs) Bool.false_ne_true
 | int i =>
  obtain ⟨t, rfl⟩ := rx
  cases y with
  | non => cases ry; exact PySem.EqNone.ne_int_none (fin_bl I q (by simp))
  | int j => obtain ⟨t', rfl⟩ := ry; exact ne_int (fin_bl I q (congrArg not dec_int))
  | str j => obtain ⟨t', rfl⟩ := ry; exact PySem.EqMixed.ne_int_str (fin_bl I q (by simp))
  | _ => exact absurd (show false = true from hs) Bool.false_ne_true
 | str i =>
  obtain ⟨t, rfl⟩ := rx
  cases y with
  | non => cases ry; exact PySem.EqNone.ne_str_none (fin_bl I q (by simp))
  | bl j => cases ry; exact PySem.EqMixed.ne_str_bool (fin_bl I q (by simp))
  | int j => obtain ⟨t', rfl⟩ := ry; exact PySem.EqMixed.ne_str_int (fin_bl I q (by simp))
  | str j => obtain ⟨t', rfl⟩ := ry; exact ne_str (fin_bl I q (congrArg not dec_str))
  | _ => exact absurd (show false = true from hs) Bool.false_ne_true
 | byt i =>
  obtain ⟨t, rfl⟩ := rx
  cases y with
  | byt j => obtain ⟨t', rfl⟩ := ry; exact PySem.W.ne_bytes (fin_bl I q (congrArg not dec_byt))
  | _ => exact absurd (show false = true from hs) Bool.false_ne_true
 | _ => cases y <;> exact absurd (show false = true from hs) Bool.false_ne_true
theorem op_lt : OpR X (compareOp .Lt) (rI0 fun i j => .bl (decide (i < j))) := opB0 fun _ _ _ _ _ _ _ q => lt_int q
theorem op_gt : OpR X (compareOp .Gt) (rI0 fun i j => .bl (decide (j < i))) := opB0 fun _ _ _ _ _ _ _ q => gt_int q
theorem op_ge : OpR X (compareOp .GtE) (rI0 fun i j => .bl (decide (j <= i))) := opB0 fun _ _ _ _ _ _ _ q => ge_int q
noncomputable def isObj : HO -> Bool
 | .lst _ => true
 | .ins _ _ _ => true
 | _ => false
theorem nomark (b : Expr) {op : CmpOp} (h : op ≠ .In := by decide) (h2 : op ≠ .NotIn := by decide) : behindInMarks op b = false := by
 have e1 : (op == CmpOp.In) = false := by cases op <;> first | rfl | exact absurd rfl h
 have e2 : (op == CmpOp.NotIn) = false := by cases op <;> first | rfl | exact absurd rfl h2
 cases b <;> simp [behindInMarks, e1, e2]
theorem pe_cmpR {op : CmpOp} {r : R2} (ho : OpR X (compareOp op) r) (ha : PE X a ta) (hb : PE X b tb) (hm : behindInMarks op b = false) : PE X (.Compare a [op] [b] pos) (tOp r ta tb) := by
 intro pins s σ H Q I h
 exact wpAny_Compare1 (binT ha hb I h fun v u s2 x y H2 I2 rx ry q => ho pins s2 σ H2 x y v u Q I2 rx ry q) hm
noncomputable def tTest (t : TE) : TT := fun σ H Q => t σ H fun x H' => ∃ k, x = .bl k /\ Q k H'
theorem pt_cmpR {op : CmpOp} {r : R2} (ho : OpR X (compareOp op) r) (ha : PE X a ta) (hb : PE X b tb) (hm : behindInMarks op b = false) : PT X (.Compare a [op] [b] pos) (tTest (tOp r ta tb)) := by
 intro pins s σ H Q I h
 refine wpAny_isTrue_Compare1 (thn (ha pins s σ H _ I h) fun v s1 ⟨x, H1, I1, r1, q1⟩ => thn (hb pins s1 σ H1 _ I1 q1) fun u s2 ⟨y, H2, I2, r2, q2⟩ =>
  thn (ho pins s2 σ H2 x y v u _ I2 r1 r2 q2) fun c s3 ⟨z, H3, I3, r3, k, e, q3⟩ => ?_) hm
 subst e
 cases r3
 exact wpAny_truthy_bool ⟨H3, I3, q3⟩
noncomputable def tChain (r r' : R2) (ta tb tc : TE) : TE := fun σ H Q => ta σ H fun x H1 => tb σ H1 fun y H2 => r x y H2 fun z H3 => ∃ k, z = .bl k ∧
 (if k = true then tc σ H3 fun w' H4 => r' y w' H4 Q else Q (.bl false) H3)
noncomputable def TruV (K : W.Frag) (x : V) (H : Hp) (k : Bool) : Prop :=
 match x with
 | .non => k = false
 | .bl b => k = b
 | .int i => k = (i != 0)
 | .str y => y.length <= sizeLine /\ k = ((y.length : Int) != 0)
 | .byt y => y.size <= sizeLine /\ k = ((y.size : Int) != 0)
 | .ref p => (∃ xs, SqL K H p xs /\ k = !xs.isEmpty) \/ (∃ xs, SqT K H p xs /\ k = !xs.isEmpty) \/ ∃ kvs, H p = some (.dK kvs) /\ k = !kvs.isEmpty
 | _ => False
theorem line63 : (sizeLine : Nat) < 2 ^ 63 := by rw [sizeLine_eq]; decide
noncomputable def PlainIxT (b : Expr) : Prop := ∀ o i, subscripted b false o i = operate [o, i] (getItem o i)
theorem vals1 {x : V} {us : List Value} (r : Vals [x] us) : ∃ u, us = [u] /\ RelV x u := by
 cases r with
 | cons r1 r2 => cases r2; exact ⟨_, rfl, r1⟩
theorem vals2 {x y : V} {us : List Value} (r : Vals [x, y] us) : ∃ u w', us = [u, w'] /\ RelV x u /\ RelV y w' := by
 cases r with
 | cons r1 r2 =>
  cases r2 with
  | cons r3 r4 => cases r4; exact ⟨_, _, rfl, r1, r3⟩
theorem call_max2 (hc : X.calm = true) : CallR X (.builtin "max") (fun xs H Q => ∃ i j, xs = [.int i, .int j] /\ Q (.int (if j > i then j else i)) H) := by
 intro pins s σ H xs us Q I r h
 refine gz9 fun _ bk0 => ?_
 obtain ⟨i, j, rfl, q⟩ := h
 obtain ⟨u, w', rfl, ⟨t, rfl⟩, ⟨t', rfl⟩⟩ := vals2 r
 refine bk0 ?_
 refine max_two_ints (I.ok.hd hc) fun h' tk k => ⟨_, H, I.kept k, ?_, q⟩
 by_cases hj : j > i
 ·rw [if_pos hj, if_pos hj]; exact ⟨_, rfl⟩
 ·rw [if_neg hj, if_neg hj]; exact ⟨_, rfl⟩
theorem call_min2 (hc : X.calm = true) : CallR X (.builtin "min") (fun xs H Q => ∃ i j, xs = [.int i, .int j] /\ Q (.int (if j < i then j else i)) H) := by
 intro pins s σ H xs us Q I r h
 refine gz9 fun _ bk0 => ?_
 obtain ⟨i, j, rfl, q⟩ := h
 obtain ⟨u, w', rfl, ⟨t, rfl⟩, ⟨t', rfl⟩⟩ := vals2 r
 refine bk0 ?_
 refine min_two_ints (I.ok.hd hc) fun h' tk k => ⟨_, H, I.kept k, ?_, q⟩
 by_cases hj : j < i
 ·rw [if_pos hj, if_pos hj]; exact ⟨_, rfl⟩
 ·rw [if_neg hj, if_neg hj]; exact ⟨_, rfl⟩
noncomputable def LenV (K : W.Frag) (x : V) (H : Hp) (n : Nat) : Prop :=
 match x with
 | .str y => y.length <= sizeLine /\ n = y.length
 | .byt y => y.size <= sizeLine /\ n = y.size
 | .ref p => (∃ xs, SqL K H p xs /\ n = xs.length) \/ ∃ xs, SqT K H p xs /\ n = xs.length
 | _ => False
end
end L2
namespace L2
open PySem PySem.Spec PyProof.Rows
structure ObjM (h : Heap) (x dx C : Addr) (mA : Str -> Option Value) : Prop where
 obj : h.get? x = some (PySem.W.instObj C dx)
 ns : h.Ns1 dx mA
 ne : dx ≠ x
theorem lookIn_ns {h : Heap} {dx : Addr} {mA : Str -> Option Value} (n : h.Ns1 dx mA) : ∃ od, h.get? dx = some od /\ ∀ name, PySem.W.lookIn name od = some (mA name) := by
 refine gz9 fun _ bk0 => ?_
 obtain ⟨o, es, ep, ho, hd, hk, _, hm⟩ := n
 refine bk0 ?_
 refine ⟨o, ho, fun name => ?_⟩
 have e := hm name
 unfold nsFind findBy at e
 rw [<- Array.find?_toList] at e
 unfold PySem.W.lookIn
 rw [hd]
 dsimp only
 split
 ·rename_i y q
  rw [q] at e
  exact congrArg some e
 ·rename_i q
  rw [q] at e
  have a : es.toList.any (·.refKey) = false := by
   rw [List.any_eq_false]
   intro y hy
   obtain ⟨z, t, hkey⟩ := hk y (Array.mem_toList_iff.mp hy)
   simp [DictEntry.refKey, hkey]
  have a' : ¬ es.toList.any (·.refKey) = true := by rw [a]; exact Bool.false_ne_true
  rw [if_neg a']
  exact congrArg some e
theorem ObjM.look {h : Heap} {x dx C : Addr} {mA : Str -> Option Value} (I : ObjM h x dx C mA) : ∃ od, PySem.W.InstAt h x (PySem.W.instObj C dx) C (some od) /\ ∀ name, PySem.W.lookIn name od = some (mA name) :=
 let ⟨od, ho, hl⟩ := lookIn_ns I.ns
 ⟨od, ⟨I.obj, rfl, rfl, ho⟩, hl⟩
section
variable {prog : Program} {w : World} {A : Around} {E : Value -> Shared -> Prop} {s : Shared} {K : W.Frag} {x dx C f : Addr} {mA : Str -> Option Value} {name : Str} {v : Value}
theorem get_map {expr : Bool} {Q : Value -> Shared -> Prop} (X : K.In s.heap) (I : ObjM s.heap x dx C mA) (hg : PySem.W.plainGet K C name = true) (hh : PySem.W.hasDictIn K C = true)
  (ha : PySem.W.findIn K (.ref C) name = some none) (hv : mA name = some v) (hv' : PySem.W.handedIn v = true) (h : Q v { s with toks := s.toks + 1 }) :
  wpAny (model prog w) A (getAttr (.ref x) name expr) Q E s := by
 obtain ⟨od, J, hl⟩ := I.look
 exact PySem.W.get_value X J (PySem.W.plainGet_of hg).1 (PySem.W.findObj_own hh ha rfl (by rw [hl, hv])) hv' h
theorem get_meth {pl : Sem Bool} {Q : Value × List Value -> Shared -> Prop} (X : K.In s.heap) (I : ObjM s.heap x dx C mA) (hg : PySem.W.plainGet K C name = true)
  (hf : PySem.W.findIn K (.ref C) name = some (some (.ref f))) (ht : PySem.W.isFn K (.ref f) = true) (hv : mA name = none) (h : Q (.ref f, [.ref x]) s) :
  wpAny (model prog w) A (getMethod (.ref x) name pl) Q E s := by
 obtain ⟨od, J, hl⟩ := I.look
 exact PySem.W.method_fn X J (PySem.W.plainGet_of hg).1 (PySem.W.plainGet_of hg).2 hf (beq_iff_eq.mp ht) (by show (PySem.W.lookIn name od).map (·.isSome) = some false; rw [hl, hv]; rfl) h
theorem set_map {ns : List Str} {Q : Unit -> Shared -> Prop} (X : K.In s.heap) (I : ObjM s.heap x dx C mA)
  (hs : PySem.W.findIn K (.ref C) "__setattr__" = some (some (.builtin "object.__setattr__"))) (hp : PySem.W.plainOver K C = true) (ht : PySem.W.takerIn K C name = some none) (hh : PySem.W.hasDictIn K C = true)
  (hw : PySem.Within mA ns) (hsz : ns.length <= sizeLine)
  (h : ∀ h', ObjM h' x dx C (fun y => if y = name then some v else mA y) -> Heap.SameBut dx s.heap h' -> Q () { s with heap := h', toks := s.toks + 2 }) :
  wpAny (model prog w) A (setAttr (.ref x) name v) Q E s := by
 obtain ⟨od, J, hl⟩ := I.look
 refine PySem.W.set_plain X J hs (PySem.W.osa_open (s := { s with toks := s.toks + 1 }) (r := none) X J hp ht fun b => ?_)
 obtain ⟨cd, hc, hd'⟩ := PySem.W.any_some hh
 have hx : s.heap.get? x = some ⟨.ref C, some dx, .plain, #[]⟩ := I.obj
 refine wpAny_bind (wpAny_pure (wpAny_bind (wpAny_bind (wpAny_loadPart hx (wpAny_bind (PySem.W.Looks.here (s := { s with toks := s.toks + 1 }) (PySem.W.looks_clsIn X hc) ?_))))))
 rw [hd']
 refine wpAny_pure (a := some dx) (wpAny_bind (wpAny_pure (wpAny_bind ?_)))
 refine wpAny_nsSet1 (s := { s with toks := s.toks + 1 }) I.ns fun h' hn2 hs2 => ?_
 refine gz9 fun _ bk0 => ?_
 obtain ⟨oD, esD, epD, hoD, hdD, hcD⟩ := hn2.count (PySem.Within.cons name v hw)
 refine bk0 ?_
 refine wpAny_bind (wpAny_lookBehind hoD (by rw [hdD]; exact pastItsLine_dict (Nat.le_trans hcD (by rw [List.length_cons]; (first | lia | omega)))) ?_)
 exact wpAny_pure (h _ ⟨(hs2.2 _ (Ne.symm I.ne)).trans I.obj, hn2, I.ne⟩ hs2)
theorem make_map {R : Result -> Shared -> Prop} {vs : List Value} {kw : List (Str × Value)} (X : K.In s.heap) (hm : PySem.W.makesIn K C = true)
  (hi : PySem.W.findIn K (.ref C) "__init__" = some (some (.ref f))) (hf : PySem.W.typeIn K (.ref f) = some (.type "function"))
  (h : codeAny (model prog w) (A.under (.builtin "type.__call__" ⟨.ref C :: vs, kw⟩)) (.call (.ref f) ⟨.ref (s.heap.objs.size + 1) :: vs, kw⟩) (PySem.W.InitBack (s.heap.objs.size + 1) R)
   { s with heap := (s.heap.push PySem.W.emptyDict).push (PySem.W.instObj C s.heap.objs.size) }) :
  codeAny (model prog w) A (.call (.ref C) ⟨vs, kw⟩) R s := by
 refine gz9 fun _ bk0 => ?_
 obtain ⟨hh, g, d, t, os⟩ := s
 refine bk0 ?_
 exact PySem.W.make_core (PySem.W.makes_of X hm) (PySem.W.looks_findIn X hi) (fun self => PySem.W.bind_fn X self hf) (.inl rfl) h
end
noncomputable def putF (f : Str) (v : V) : List (Str × V) -> List (Str × V)
 | [] => [(f, v)]
 | (g, x) :: r => if g = f then (g, v) :: r else (g, x) :: putF f v r
theorem lookup_putF (f g : Str) (v : V) : ∀ fs : List (Str × V), (putF f v fs).lookup g = if g = f then some v else fs.lookup g
 | [] => by
  show List.lookup g [(f, v)] = _
  by_cases h : g = f
  ·have hb : (g == f) = true := beq_iff_eq.mpr h
   simp only [List.lookup, hb, if_pos h]
  ·have hb : (g == f) = false := beq_eq_false_iff_ne.mpr h
   simp only [List.lookup, hb, if_neg h]
 | (k, x) :: r => by
  have ih := lookup_putF f g v r
  rw [show putF f v ((k, x) :: r) = (if k = f then (k, v) :: r else (k, x) :: putF f v r) from rfl]
  by_cases hk : k = f
  ·rw [if_pos hk]
   by_cases h : g = k
   ·have hb : (g == k) = true := beq_iff_eq.mpr h
    simp only [List.lookup, hb, if_pos (h.trans hk)]
   ·have hb : (g == k) = false := beq_eq_false_iff_ne.mpr h
    simp only [List.lookup, hb, if_neg (fun e : g = f => h (e.trans hk.symm))]
  ·rw [if_neg hk]
   by_cases h : g = k
   ·have hb : (g == k) = true := beq_iff_eq.mpr h
    simp only [List.lookup, hb, if_neg (fun e : g = f => hk (h.symm.trans e))]
   ·have hb : (g == k) = false := beq_eq_false_iff_ne.mpr h
    simp only [List.lookup, hb]
    exact ih
theorem keys_putF (f : Str) (v : V) : ∀ fs : List (Str × V), f ∈ (putF f v fs).map (·.1) /\ ∀ g, g ∈ fs.map (·.1) -> g ∈ (putF f v fs).map (·.1)
 | [] => ⟨by simp [putF], fun g h => by simp at h⟩
 | (k, x) :: r => by
  obtain ⟨i1, i2⟩ := keys_putF f v r
  rw [show putF f v ((k, x) :: r) = (if k = f then (k, v) :: r else (k, x) :: putF f v r) from rfl]
  by_cases hk : k = f
  ·rw [if_pos hk]
   subst hk
   exact ⟨by simp, fun g h => by simpa using h⟩
  ·rw [if_neg hk]
   refine ⟨?_, fun g h => ?_⟩
   ·rw [List.map_cons]
    exact List.mem_cons_of_mem _ i1
   ·rw [List.map_cons] at h ⊢
    rcases List.mem_cons.mp h with e | e
    ·exact List.mem_cons.mpr (.inl e)
    ·exact List.mem_cons_of_mem _ (i2 g e)
theorem length_putF (f : Str) (v : V) : ∀ fs : List (Str × V), (putF f v fs).length <= fs.length + 1
 | [] => by simp [putF]
 | (k, x) :: r => by
  have ih := length_putF f v r
  rw [show putF f v ((k, x) :: r) = (if k = f then (k, v) :: r else (k, x) :: putF f v r) from rfl]
  by_cases hk : k = f
  ·rw [if_pos hk, List.length_cons, List.length_cons]; (first | lia | omega)
  ·rw [if_neg hk, List.length_cons, List.length_cons]; (first | lia | omega)
theorem RelO.some_of {v : V} {o : Option Value} (r : RelO (some v) o) : ∃ u, o = some u /\ RelV v u := by
 cases o with
 | none => exact (show False from r).elim
 | some u => exact ⟨u, rfl, r⟩
theorem RelO.none_of {o : Option Value} (r : RelO none o) : o = none := by
 cases o with
 | none => rfl
 | some u => exact (show False from r).elim
theorem handed_of {v : V} {u : Value} (r : RelV v u) : PySem.W.handedIn u = true := by
 cases v with
 | non => cases (show u = Value.none from r); rfl
 | bl b => cases (show u = Value.bool b from r); rfl
 | int i => obtain ⟨t, e⟩ := (show ∃ t, u = Value.int i t from r); cases e; rfl
 | str x => obtain ⟨t, e⟩ := (show ∃ t, u = Value.str x t from r); cases e; rfl
 | byt b => obtain ⟨t, e⟩ := (show ∃ t, u = Value.bytes b t from r); cases e; rfl
 | flt b => obtain ⟨t, e⟩ := (show ∃ t, u = Value.float b t from r); cases e; rfl
 | ref a => cases (show u = Value.ref a from r); rfl
 | ty n => cases (show u = Value.type n from r); rfl
section
variable {P : Program} {w : World} {H H' : Hp} {h h' : Heap} {a C dx : Addr} {fs fs' : List (Str × V)}
theorem ins_get (hok : HOk P w H h) (e : H a = some (.ins C dx fs)) : ∃ mA, ObjM h a dx C mA /\ (∀ f, RelO (fs.lookup f) (mA f)) /\ PySem.Within mA (fs.map (·.1)) /\ fs.length <= 1000 /\ H dx = some (.own a) := by
 refine gz9 fun _ bk0 => ?_
 obtain ⟨d, z, ne, ob, mA, n, r, q⟩ := (show ObjOk P w H h a (.ins C dx fs) from hok a _ e)
 refine bk0 ?_
 exact ⟨mA, ⟨ob, n, ne⟩, r, q, z, d⟩
end
structure Cls (K : W.Frag) (C : Addr) : Prop where
 pg : PySem.W.plainGet K C Str.empty = true
 hd : PySem.W.hasDictIn K C = true
 po : PySem.W.plainOver K C = true
 sa : PySem.W.findIn K (.ref C) "__setattr__" = some (some (.builtin "object.__setattr__"))
theorem Cls.get {K : W.Frag} {C : Addr} (c : Cls K C) (f : Str) : PySem.W.plainGet K C f = true := c.pg
noncomputable def NoAttr (K : W.Frag) (C : Addr) (f : Str) : Prop := PySem.W.findIn K (.ref C) f = some none
theorem NoAttr.taker {K : W.Frag} {C : Addr} {f : Str} (n : NoAttr K C f) : PySem.W.takerIn K C f = some none := by
 unfold PySem.W.takerIn
 rw [show PySem.W.findIn K (.ref C) f = some none from n]
 rfl
structure Con (K : W.Frag) (C : Addr) (f : Str) (v : V) (u : Value) : Prop where
 at_ : PySem.W.findIn K (.ref C) f = some (some u)
 rel : RelV v u
 get : PySem.W.specialIn K u "__get__" = some none
 cp : PySem.W.copiedNames.contains f = false
structure Meth (K : W.Frag) (C : Addr) (m : Str) (f : Addr) : Prop where
 at_ : PySem.W.findIn K (.ref C) m = some (some (.ref f))
 fn : PySem.W.isFn K (.ref f) = true
 kp : PySem.W.keepIn K (.ref f) = true
section
variable {X : Cx} {pins : List (Addr × Obj)} {σ : St} {H : Hp} {s : Shared} {a C dx : Addr} {fs : List (Str × V)} {f : Str} {v : V} {A : Around} {E : Value -> Shared -> Prop}
theorem getattr_ok {b : Bool} {Q : Value -> Shared -> Prop} (I : Inv X pins σ H s) (e : H a = some (.ins C dx fs)) (c : Cls X.K C) (n : NoAttr X.K C f) (l : fs.lookup f = some v)
  (h : ∀ u s', Inv X pins σ H s' -> RelV v u -> Q u s') : wpAny (model X.prog X.w) A (getAttr (.ref a) f b) Q E s := by
 refine gz9 fun _ bk0 => ?_
 obtain ⟨mA, O, r, _, _, _⟩ := ins_get I.hok e
 obtain ⟨u, hu, ru⟩ := RelO.some_of (v := v) (o := mA f) (by rw [<- l]; exact r f)
 refine bk0 ?_
 exact get_map I.kIn O (c.get f) c.hd n hu (handed_of ru) (h u _ (I.tok _) ru)
theorem getmeth_ok {m : Str} {g : Addr} {pl : Sem Bool} {Q : Value × List Value -> Shared -> Prop} (I : Inv X pins σ H s) (e : H a = some (.ins C dx fs)) (c : Cls X.K C) (k : Meth X.K C m g) (l : fs.lookup m = none)
  (h : Q (.ref g, [.ref a]) s) : wpAny (model X.prog X.w) A (getMethod (.ref a) m pl) Q E s := by
 refine gz9 fun _ bk0 => ?_
 obtain ⟨mA, O, r, _, _, _⟩ := ins_get I.hok e
 refine bk0 ?_
 have hn : mA m = none := RelO.none_of (by rw [<- l]; exact r m)
 exact get_meth I.kIn O (c.get m) k.at_ k.fn hn h
theorem setattr_ok {y : V} {u : Value} {Q : Unit -> Shared -> Prop} (I : Inv X pins σ H s) (e : H a = some (.ins C dx fs)) (c : Cls X.K C) (n : NoAttr X.K C f) (hl : fs.length < 1000) (ry : RelV y u)
  (h : ∀ s', Inv X pins σ (upd H a (.ins C dx (putF f y fs))) s' -> Q () s') : wpAny (model X.prog X.w) A (setAttr (.ref a) f u) Q E s := by
 refine gz9 fun _ bk0 => ?_
 obtain ⟨mA, O, r, wi, _, ho⟩ := ins_get I.hok e
 refine bk0 ?_
 have hz : (fs.map (·.1)).length <= sizeLine := by rw [List.length_map, sizeLine_eq]; (first | lia | omega)
 refine set_map I.kIn O c.sa c.po n.taker c.hd wi hz fun h' O' sb => h _ ?_
 have hd : ∃ o, h'.get? dx = some o := let ⟨o, _, _, e', _⟩ := O'.ns; ⟨o, e'⟩
 refine I.write (x := a) (e := dx) (by rw [e]; exact True.intro) (.inr ho) (fun b q hb z => (sb.2 b hb).trans z) hd ?_
 refine ⟨by rw [upd_ne O.ne]; exact ho, ?_, O.ne, O'.obj, _, O'.ns, fun g => ?_, fun g hg => ?_⟩
 ·have := length_putF f y fs; (first | lia | omega)
 ·show RelO ((putF f y fs).lookup g) (if g = f then some u else mA g)
  rw [lookup_putF]
  by_cases q : g = f
  ·rw [if_pos q, if_pos q]; exact ry
  ·rw [if_neg q, if_neg q]; exact r g
 ·by_cases q : g = f
  ·rw [q]; exact (keys_putF f y fs).1
  ·refine (keys_putF f y fs).2 g (wi g fun z => hg ?_)
   show (if g = f then some u else mA g) = none
   rw [if_neg q]; exact z
theorem Inv.made (I : Inv X pins σ H s) : Inv X pins σ (upd (upd H s.heap.objs.size (.own (s.heap.objs.size + 1))) (s.heap.objs.size + 1) (.ins C s.heap.objs.size []))
  { s with heap := (s.heap.push PySem.W.emptyDict).push (PySem.W.instObj C s.heap.objs.size) } := by
 have e1 : (s.heap.push PySem.W.emptyDict).get? s.heap.objs.size = some PySem.W.emptyDict := Heap.get?_push_size s.heap rfl
 have e2 : ((s.heap.push PySem.W.emptyDict).push (PySem.W.instObj C s.heap.objs.size)).get? (s.heap.objs.size + 1) = some (PySem.W.instObj C s.heap.objs.size) := by
  have := Heap.get?_push_size (s.heap.push PySem.W.emptyDict) (o := PySem.W.instObj C s.heap.objs.size) rfl
  rwa [Heap.size_push] at this
 have e3 : (s.heap.push PySem.W.emptyDict).Ns s.heap.objs.size (fun _ => none) := ⟨PySem.W.emptyDict, #[], _, e1, rfl, (fun e he => absurd he (by simp)), fun _ => rfl⟩
 have I1 := I.laid (a := s.heap.objs.size) (o := .own (s.heap.objs.size + 1)) (h' := s.heap.push PySem.W.emptyDict) (t' := s.toks) (fun b u q => Heap.get?_push_of_some _ q) (Nat.le_refl _) ⟨_, e1⟩
 refine I1.laid (a := s.heap.objs.size + 1) (o := .ins C s.heap.objs.size []) (t' := s.toks) (fun b u q => Heap.get?_push_of_some _ q) (Nat.le_of_eq (Heap.size_push _ _)) ?_
 have ne : s.heap.objs.size ≠ s.heap.objs.size + 1 := Nat.ne_of_lt (Nat.lt_succ_self _)
 refine ⟨by rw [upd_ne ne, upd_same], Nat.zero_le _, ne, e2, fun _ => none, (Heap.Ns1.of_empty e3).at fun o q => Heap.get?_push_of_some _ q, fun _ => True.intro, fun y hy => absurd rfl hy⟩
theorem attr_of {prog : Program} {w : World} {env : Env} {e : Expr} {f : Str} {pos : Pos} {s : Shared} {Q : Value -> Shared -> Prop} (hb : attributeBase e f env (eval e env) = eval e env)
  (h : wpAny (model prog w) A (eval e env) (fun o s₁ => wpAny (model prog w) A (getAttr o f true) Q E s₁) E s) : wpAny (model prog w) A (eval (.Attribute e f pos) env) Q E s :=
 Attribute_any_ h (by rw [arm_eval_Attribute, hb])
end
noncomputable def tFld (K : W.Frag) (ta : TE) (f : Str) : TE := fun σ H Q => ta σ H fun x H1 => ∃ a C dx fs v, x = .ref a /\ H1 a = some (.ins C dx fs) /\ Cls K C /\ NoAttr K C f /\ fs.lookup f = some v /\ Q v H1
noncomputable def tCon (K : W.Frag) (ta : TE) (f : Str) : TE := fun σ H Q => ta σ H fun x H1 => ∃ a C dx fs v u, x = .ref a /\ H1 a = some (.ins C dx fs) /\ Cls K C /\ Con K C f v u /\ fs.lookup f = none /\ Q v H1
noncomputable def sFld (K : W.Frag) (ta tv : TE) (f : Str) : TS := fun D σ H => tv σ H fun y H1 => ta σ H1 fun x H2 => ∃ a C dx fs, x = .ref a /\ H2 a = some (.ins C dx fs) /\ Cls K C /\ NoAttr K C f /\ fs.length < 1000 ∧
 D.nx σ (upd H2 a (.ins C dx (putF f y fs)))
noncomputable def InOp (X : Cx) (op : Operator) (rd : V -> V -> Hp -> VK -> Prop) : Prop :=
 ∀ (pins : List (Addr × Obj)) (s : Shared) (σ : St) (H : Hp) (x y : V) (u v : Value) (Q : VK), Inv X pins σ H s -> RelV x u -> RelV y v -> rd x y H Q -> wpAny (model X.prog X.w) X.A (inplaceOp op u v) (EP X pins σ Q) X.xe s
noncomputable def sFldAug (K : W.Frag) (ta tv : TE) (rd : V -> V -> Hp -> VK -> Prop) (f : Str) : TS := fun D σ H => ta σ H fun x H1 => ∃ a C dx fs v, x = .ref a /\ H1 a = some (.ins C dx fs) /\ Cls K C /\ NoAttr K C f /\ fs.lookup f = some v ∧
 tv σ H1 fun y H2 => rd v y H2 fun z H3 => ∃ dx' fs', H3 a = some (.ins C dx' fs') /\ fs'.length < 1000 /\ D.nx σ (upd H3 a (.ins C dx' (putF f z fs')))
section
variable {X : Cx} {o e value : Expr} {f : Str} {pos pos' tpos : Pos} {ta tv : TE}
theorem pe_fld (he : PE X e ta) (hb : attributeBase e f X.env (eval e X.env) = eval e X.env) : PE X (.Attribute e f pos) (tFld X.K ta f) := by
 intro pins s σ H Q I h
 refine attr_of hb (thn (he pins s σ H _ I h) fun u s1 pk0 => ?_)
 refine gz9 fun _ bk0 => ?_
 obtain ⟨x, H1, I1, rx, a, C, dx, fs, v, ex, ea, c, n, l, q⟩ := pk0
 refine bk0 ?_
 subst ex
 obtain rfl : u = Value.ref a := rx
 exact getattr_ok I1 ea c n l fun u' s2 I2 ru => ⟨v, H1, I2, ru, q⟩
theorem ps_fld (ha : PE X o ta) (hv : PE X value tv) (hs : swapsWith value (some (.Attribute o f pos')) pos.line X.env = pure false) : PS X (.Assign [.Attribute o f pos'] value pos) (sFld X.K ta tv f) := by
 intro pins s σ H D I h
 refine plainObj_wpAny_Assign_Attribute (thn (hv pins s σ H _ I h) fun u s1 pk0 => ?_) hs
 refine gz9 fun _ bk0 => ?_
 obtain ⟨y, H1, I1, ry, q⟩ := pk0
 refine bk0 ?_
 refine thn (ha pins s1 σ H1 _ I1 q) fun ov s2 pk0 => ?_
 refine gz9 fun _ bk0 => ?_
 obtain ⟨x, H2, I2, rx, a, C, dx, fs, ex, ea, c, n, l, q2⟩ := pk0
 refine bk0 ?_
 subst ex
 obtain rfl : ov = Value.ref a := rx
 exact setattr_ok I2 ea c n l ry fun s3 I3 => ⟨σ, _, I3, q2⟩
noncomputable def rAdd : V -> V -> Hp -> VK -> Prop := fun x y H Q => ∃ i j, x = .int i /\ y = .int j /\ Q (.int (i + j)) H
noncomputable def rSub : V -> V -> Hp -> VK -> Prop := fun x y H Q => ∃ i j, x = .int i /\ y = .int j /\ Q (.int (i - j)) H
end
section
variable {X : Cx} {pins : List (Addr × Obj)} {σ : St} {H : Hp} {s : Shared} {A : Around} {E : Value -> Shared -> Prop} {Q : Value -> Shared -> Prop} {c : Value} {b : Bool}
inductive TyOf (K : W.Frag) (H : Hp) : V -> Value -> Prop where
 | non : TyOf K H .non (.type "NoneType")
 | bl (x : Bool) : TyOf K H (.bl x) (.type "bool")
 | int (i : Int) : TyOf K H (.int i) (.type "int")
 | str (x : Str) : TyOf K H (.str x) (.type "str")
 | flt (x : UInt64) : TyOf K H (.flt x) (.type "float")
 | lst {a : Addr} {xs : List V} (e : H a = some (.lst xs)) : TyOf K H (.ref a) (.type "list")
 | frz {a : Addr} {o : Obj} {xs : List V} (e : H a = some (.frz o (.lst xs))) : TyOf K H (.ref a) (.type "list")
 | tup {a : Addr} {xs : List V} (e : H a = some (.tup xs)) : TyOf K H (.ref a) (.type "tuple")
 | dK {a : Addr} {kvs : List (Key × V)} (e : H a = some (.dK kvs)) : TyOf K H (.ref a) (.type "dict")
 | dT {a : Addr} {kvs : List (List Key × V)} (e : H a = some (.dT kvs)) : TyOf K H (.ref a) (.type "dict")
 | ins {a C dx : Addr} {fs : List (Str × V)} (e : H a = some (.ins C dx fs)) (cl : Cls K C) (ha : PySem.W.findIn K (.ref C) "__class__" = some (some (.builtin "object.__class__")))
   (hn : PySem.W.specialIn K (.builtin "object.__class__") "__get__" = some (some (.builtin "getset_descriptor.__get__"))) (htk : PySem.W.takesIn K (.builtin "object.__class__") = some true)
   (hm : PySem.W.mroIn K C (.type "object") = some true) : TyOf K H (.ref a) (.ref C)
end
end L2
namespace L2
open PySem PySem.Spec PyProof.Rows
structure Room (k : Nat) (A : Around) : Prop where
 hd : A.handled = none
 dp : A.depth + 3 * k + 5 < recursionLimit
 un : A.units + 16 * k + 200 < cLine
theorem Room.mono {j k : Nat} {A : Around} (r : Room k A) (h : j <= k) : Room j A := ⟨r.hd, by have := r.dp; (first | lia | omega), by have := r.un; (first | lia | omega)⟩
theorem Room.deeper {k : Nat} {A : Around} (r : Room (k + 1) A) (env : Env) : Room k (A.deeper env) :=
 ⟨r.hd, by have := r.dp; show A.depth + 1 + 3 * k + 5 < _; (first | lia | omega), by have := r.un; show A.units + 3 + 16 * k + 200 < _; (first | lia | omega)⟩
theorem make_depth {A : Around} {C : Addr} {us : List Value} {kw : List (Str × Value)} : (A.under (.builtin "type.__call__" ⟨.ref C :: us, kw⟩)).depth = A.depth + 1 := by
 first | rfl | simp [Around.under, Code.weight, Code.isCreation, Code.isGuard, Code.isCaller, Code.frames, Code.isFrame, guardIds]
theorem make_units {A : Around} {C : Addr} {us : List Value} {kw : List (Str × Value)} : (A.under (.builtin "type.__call__" ⟨.ref C :: us, kw⟩)).units = A.units + 1 := by
 first | rfl | simp [Around.under, Code.cUnits, Code.frames, Code.isFrame]
theorem Room.make {k : Nat} {A : Around} (r : Room (k + 1) A) (C : Addr) (us : List Value) (kw : List (Str × Value)) : Room k (A.under (.builtin "type.__call__" ⟨.ref C :: us, kw⟩)) :=
 ⟨r.hd, by have := r.dp; rw [make_depth]; (first | lia | omega), by have := r.un; rw [make_units]; (first | lia | omega)⟩
theorem Room.depth {k : Nat} {A : Around} (r : Room k A) : A.depth < recursionLimit := by have := r.dp; (first | lia | omega)
theorem Room.units {k : Nat} {A : Around} (r : Room k A) : A.units + 64 < cLine := by have := r.un; (first | lia | omega)
noncomputable def tNil : TA := fun _ H Q => Q [] H
noncomputable def tCons (ta : TE) (tr : TA) : TA := fun σ H Q => ta σ H fun x H1 => tr σ H1 fun xs H2 => Q (x :: xs) H2
section
variable {X : Cx} {e : Expr} {es : List Expr} {te : TE} {t : TA} {pos : Pos}
theorem pa_nil : PA X [] tNil := fun _ _ _ _ H Q I h => Calls.spliced_nil ⟨[], H, I, .nil, h⟩
theorem pa_cons (ha : PE X e te) (hr : PA X es t) (hs : starEach (e :: es) X.env = (false, eval e X.env) :: starEach es X.env := by rfl) : PA X (e :: es) (tCons te t) := by
 intro pos pins s σ H Q I h
 rw [hs]
 show wpAny _ _ (spliced ((false, eval e X.env) :: backTo pos (starEach es X.env))) _ _ s
 refine Calls.spliced_cons (thn (ha pins s σ H _ I h) fun u s1 pk0 => ?_)
 refine gz9 fun _ bk0 => ?_
 obtain ⟨x, H1, I1, r1, q1⟩ := pk0
 refine bk0 ?_
 refine thn (hr pos pins s1 σ H1 _ I1 q1) fun us s2 pk0 => ?_
 refine gz9 fun _ bk0 => ?_
 obtain ⟨xs, H2, I2, r2, q2⟩ := pk0
 refine bk0 ?_
 exact ⟨x :: xs, H2, I2, .cons r1 r2, q2⟩
noncomputable def tTup (t : TA) : TE := fun σ H Q => t σ H fun xs H1 => xs.length <= sizeLine /\ ∀ p, H1 p = none -> Q (.ref p) (upd H1 p (.tup xs))
noncomputable def tLst (t : TA) : TE := fun σ H Q => t σ H fun xs H1 => xs.length <= sizeLine /\ ∀ p, H1 p = none -> Q (.ref p) (upd H1 p (.lst xs))
theorem pe_tup {x1} (h : PA X es t) : PE X (.Tuple es x1 pos) (tTup t) := by
 intro pins s σ H Q I hq
 refine wpAny_Tuple_spliced (thn (h pos pins s σ H _ I hq) fun us s1 ⟨xs, H1, I1, r, z, q⟩ => ⟨by rw [<- r.length]; exact z, ?_⟩)
 have hf : H1 s1.heap.objs.size = none := I1.hok.fresh (Nat.le_refl _)
 refine ⟨.ref s1.heap.objs.size, upd H1 s1.heap.objs.size (.tup xs), I1.laid (t' := s1.toks) (fun b u e => Heap.get?_push_of_some _ e) (Nat.le_refl _) ?_, rfl, q _ hf⟩
 exact ⟨z, us, r, ⟨_, Heap.get?_push_size _ rfl, rfl, _, rfl⟩⟩
theorem pe_lst (h : PA X es t) : PE X (.List es pos) (tLst t) := by
 intro pins s σ H Q I hq
 refine wpAny_List_spliced (thn (h pos pins s σ H _ I hq) fun us s1 ⟨xs, H1, I1, r, z, q⟩ => ⟨by rw [<- r.length]; exact z, ?_⟩)
 have hf : H1 s1.heap.objs.size = none := I1.hok.fresh (Nat.le_refl _)
 refine ⟨.ref s1.heap.objs.size, upd H1 s1.heap.objs.size (.lst xs), I1.laid (t' := s1.toks) (fun b u e => Heap.get?_push_of_some _ e) (Nat.le_refl _) ?_, rfl, q _ hf⟩
 exact ⟨z, us, 0, r, Heap.get?_push_size _ rfl⟩
end
noncomputable abbrev Sp := List V -> Hp -> VK -> XK -> Prop
noncomputable abbrev CXT := List Env -> Hp -> Shared -> XK -> Value -> Shared -> Prop
structure Env0 (P : Program) (w : World) (K : W.Frag) (mg : Str -> Option Value) (base : Heap) (A : Around) (outer : List Env) (s : Shared) (H : Hp) : Prop where
 frames : A.frames = some outer
 mod : Mod K mg base
 bs : ∀ b o, base.get? b = some o -> s.heap.get? b = some o /\ H b = none
 bsz : base.objs.size <= s.heap.objs.size
 funs : s.heap.FunFrames base outer
 frf : ∀ b ∈ frs outer, H b = none
 hok : HOk P w H s.heap
 bare : AllBare s.gens
noncomputable def CE (outer : List Env) (P : Program) (w : World) (H : Hp) (s : Shared) (Q : VK) (u : Value) (s' : Shared) : Prop :=
 ∃ v H', s'.os = s.os /\ AllBare s'.gens /\ Un (frs outer) [] H H' s.heap s'.heap /\ HOk P w H' s'.heap /\ RelV v u /\ Q v H'
noncomputable def CR (CX : CXT) (outer : List Env) (P : Program) (w : World) (H : Hp) (s : Shared) (Q : VK) (E : XK) (r : Result) (s' : Shared) : Prop :=
 match r with
 | .ok (.ret u) => CE outer P w H s Q u s'
 | .ok _ => False
 | .error e => CX outer H s E e s'
structure FnOk (P : Program) (w : World) (K : W.Frag) (mg : Str -> Option Value) (base : Heap) (CX : CXT) (k : Nat) (f : Addr) (fd : FuncData) (ps : List Str) (sp : Sp) : Prop where
 len : ∀ vs H Q E, sp vs H Q E -> vs.length = ps.length
 run : ∀ (A : Around) (outer : List Env) (s : Shared) (H : Hp) (args : Args) (us : List Value) (vs : List V) (Q : VK) (E : XK), Room k A -> Env0 P w K mg base A outer s H -> BindsTo s fd args (ps.zip us) -> Vals vs us -> sp vs H Q E →
  codeAny (model P w) A (.call (.ref f) args) (CR CX outer P w H s Q E) s
theorem Env0.make {P : Program} {w : World} {K : W.Frag} {mg : Str -> Option Value} {base : Heap} {A : Around} {outer : List Env} {s : Shared} {H : Hp} (e : Env0 P w K mg base A outer s H) (C : Addr) (us : List Value) (kw : List (Str × Value)) :
  Env0 P w K mg base (A.under (.builtin "type.__call__" ⟨.ref C :: us, kw⟩)) outer s H := ⟨by first | exact e.frames | (simpa [Around.under, Code.envs, Code.isFrame, pushEnvs] using e.frames), e.mod, e.bs, e.bsz, e.funs, e.frf, e.hok, e.bare⟩
section
variable {X : Cx} {pins : List (Addr × Obj)} {σ : St} {H : Hp} {s s' : Shared}
theorem Inv.env0 (I : Inv X pins σ H s) : Env0 X.prog X.w X.K X.mg X.base X.A X.stack s H :=
 ⟨I.ok.frames, I.ok.mod, I.bs, Nat.le_trans I.ok.bsz I.sz, I.stack, I.stkFree, I.hok, I.bare⟩
theorem Inv.after {Q : VK} {u : Value} (I : Inv X pins σ H s) (h : CE X.stack X.prog X.w H s Q u s') : EP X pins σ Q u s' := by
 refine gz9 fun _ bk0 => ?_
 obtain ⟨v, H', os, bare, un, hok, r, q⟩ := h
 obtain ⟨hh, g, d, t, os'⟩ := s'
 refine bk0 ?_
 obtain rfl : os' = s.os := os
 exact ⟨v, H', I.call (h' := hh) (g' := g) (d' := d) (t' := t) (ch := []) un hok bare (fun b z => absurd z (by simp)), r, q⟩
end
noncomputable def tCall (sp : Sp) (dvs : List V) (E : XK) (t : TA) : TE := fun σ H Q => t σ H fun vs H1 => sp (vs ++ dvs) H1 Q E
noncomputable def tMeth (C : Addr) (m : Str) (sp : Sp) (dvs : List V) (E : XK) (ta : TE) (t : TA) : TE := fun σ H Q => ta σ H fun x H1 => ∃ a dx fs, x = .ref a /\ H1 a = some (.ins C dx fs) /\ fs.lookup m = none ∧
 t σ H1 fun vs H2 => sp (x :: (vs ++ dvs)) H2 Q E
noncomputable def tMake (C : Addr) (sp : Sp) (dvs : List V) (E : XK) (t : TA) : TE := fun σ H Q => t σ H fun vs H1 => ∀ x dx, H1 x = none -> H1 dx = none -> dx ≠ x →
 sp (.ref x :: (vs ++ dvs)) (upd (upd H1 dx (.own x)) x (.ins C dx [])) (fun v H2 => v = .non /\ Q (.ref x) H2) E
noncomputable def Binds (K : W.Frag) (fd : FuncData) (ps : List Str) (ds : List Value) : Prop :=
 ∀ (s : Shared) (us : List Value), K.In s.heap -> (us ++ ds).length = ps.length -> BindsTo s fd ⟨us, []⟩ (ps.zip (us ++ ds))
theorem Binds.all {K : W.Frag} {fd : FuncData} {ps : List Str} (h : ∀ us : List Value, us.length = ps.length -> bindArgs fd ⟨us, []⟩ = pure (ps.zip us)) : Binds K fd ps [] := fun s us _ hl => by
 rw [List.append_nil] at hl ⊢
 exact .of_eq (h us hl)
noncomputable def Passes (CX : CXT) (X : Cx) (E : XK) : Prop := ∀ (pins : List (Addr × Obj)) (σ : St) (H : Hp) (s : Shared) (e : Value) (s' : Shared), Inv X pins σ H s -> CX X.stack H s E e s' -> X.xe e s'
section
variable {X : Cx} {CX : CXT} {k : Nat} {f C : Addr} {fd : FuncData} {ps : List Str} {sp : Sp} {dvs : List V} {ds : List Value} {E : XK} {x m : Str} {p pos apos : Pos} {e o : Expr} {es : List Expr} {ta : TE} {t : TA}
theorem run_fn {pins : List (Addr × Obj)} {σ : St} {H : Hp} {s : Shared} {Q : VK} {us : List Value} {vs : List V} (F : FnOk X.prog X.w X.K X.mg X.base CX k f fd ps sp) (hr : Room k X.A) (hb : Binds X.K fd ps ds) (hd : Vals dvs ds) (hx : Passes CX X E)
  (I : Inv X pins σ H s) (r : Vals vs us) (h : sp (vs ++ dvs) H Q E) : wpAny (model X.prog X.w) X.A (call (.ref f) us) (EP X pins σ Q) X.xe s := by
 have r2 : Vals (vs ++ dvs) (us ++ ds) := r.append hd
 have hl : (us ++ ds).length = ps.length := by rw [<- r2.length]; exact F.len _ _ _ _ h
 refine wpAny_call (codeAny_mono (F.run X.A X.stack s H ⟨us, []⟩ (us ++ ds) (vs ++ dvs) Q E hr I.env0 (hb s us I.kIn hl) r2 h) fun r s' hq => ?_)
 cases r with
 | error e => exact hx pins σ H s e s' I hq
 | ok fl =>
  cases fl with
  | ret u => exact I.after hq
  | next => exact False.elim hq
  | brk => exact False.elim hq
  | cont => exact False.elim hq
theorem pe_call (F : FnOk X.prog X.w X.K X.mg X.base CX k f fd ps sp) (hr : Room k X.A) (hg : Gl X x) (hm : X.mg x = some (.ref f)) (hk : PySem.W.keepIn X.K (.ref f) = true) (hb : Binds X.K fd ps ds) (hd : Vals dvs ds) (hx : Passes CX X E)
  (ha : PA X (e :: es) t) (hdb : (x == ("__debug__" : Str)) = false := by decide) (he : starEach (e :: es) X.env = (false, eval e X.env) :: starEach es X.env := by rfl) (hpl : (backTo pos (starEach es X.env)).any (·.1) = false := by rfl) :
  PE X (.Call (.Name x p) (e :: es) [] pos) (tCall sp dvs E t) := by
 intro pins s σ H Q I h
 refine wpAny_Call_Name_kw (ld_glob I hg hm ?_ hdb)
 refine PySem.W.callWith_K (h₀ := X.base) I.ok.mod.kin hk (thn (ha pos pins s σ H _ I h) fun us s1 pk0 => ?_) he hpl
 refine gz9 fun _ bk0 => ?_
 obtain ⟨vs, H1, I1, r, q⟩ := pk0
 refine bk0 ?_
 refine ⟨I1.kIn, ?_⟩
 exact run_fn F hr hb hd hx I1 r q
theorem pe_meth {pl : Sem Bool} (he : PE X o ta) (c : Cls X.K C) (hm : Meth X.K C m f) (F : FnOk X.prog X.w X.K X.mg X.base CX k f fd ps sp) (hr : Room k X.A) (hb : Binds X.K fd ps ds) (hd : Vals dvs ds) (hx : Passes CX X E) (ha : PA X (e :: es) t)
  (hst : starEach (e :: es) X.env = (false, eval e X.env) :: starEach es X.env := by rfl) (hpl : (backTo pos (starEach es X.env)).any (·.1) = false := by rfl)
  (ht : eval (.Call (.Attribute o m apos) (e :: es) [] pos) X.env = (do
   let ov <- eval o X.env
   standAt apos.atName
   let (f, first) <- holding [ov] (getMethod ov m pl)
   callWith pos f first (backTo pos (starEach (e :: es) X.env)) (backToKw pos (keywordEach [] X.env))) := by rfl) :
  PE X (.Call (.Attribute o m apos) (e :: es) [] pos) (tMeth C m sp dvs E ta t) := by
 intro pins s σ H Q I h
 refine PySem.W.methodCall_KW (pl := pl) (thn (he pins s σ H _ I h) fun u s1 pk0 => ?_) ht
 refine gz9 fun _ bk0 => ?_
 obtain ⟨x, H1, I1, rx, a, dx, fs, ex, ea, l, q⟩ := pk0
 refine bk0 ?_
 subst ex
 obtain rfl : u = Value.ref a := rx
 refine getmeth_ok I1 ea c hm l ?_
 refine PySem.W.callWith_K (first := [.ref a]) (h₀ := X.base) I.ok.mod.kin hm.kp (thn (ha pos pins s1 σ H1 _ I1 q) fun us s2 pk0 => ?_) hst hpl
 refine gz9 fun _ bk0 => ?_
 obtain ⟨vs, H2, I2, r, q2⟩ := pk0
 refine bk0 ?_
 refine ⟨I2.kIn, ?_⟩
 exact run_fn (us := .ref a :: us) (vs := .ref a :: vs) F hr hb hd hx I2 (.cons rfl r) q2
theorem pe_meth0 {pl : Sem Bool} (he : PE X o ta) (c : Cls X.K C) (hm : Meth X.K C m f) (F : FnOk X.prog X.w X.K X.mg X.base CX k f fd ps sp) (hr : Room k X.A) (hb : Binds X.K fd ps ds) (hd : Vals dvs ds) (hx : Passes CX X E)
  (ht : eval (.Call (.Attribute o m apos) [] [] pos) X.env = (do
   let ov <- eval o X.env
   standAt apos.atName
   let (f, first) <- holding [ov] (getMethod ov m pl)
   callWith pos f first (backTo pos (starEach [] X.env)) (backToKw pos (keywordEach [] X.env))) := by rfl) :
  PE X (.Call (.Attribute o m apos) [] [] pos) (tMeth C m sp dvs E ta tNil) := by
 intro pins s σ H Q I h
 refine PySem.W.methodCall_KW (pl := pl) (thn (he pins s σ H _ I h) fun u s1 pk0 => ?_) ht
 refine gz9 fun _ bk0 => ?_
 obtain ⟨x, H1, I1, rx, a, dx, fs, ex, ea, l, q⟩ := pk0
 refine bk0 ?_
 subst ex
 obtain rfl : u = Value.ref a := rx
 refine getmeth_ok I1 ea c hm l ?_
 exact PySem.W.callWith_K0 (first := [.ref a]) I1.kIn hm.kp (run_fn (us := [.ref a]) (vs := [.ref a]) F hr hb hd hx I1 (.cons rfl .nil) q)
structure Mk (K : W.Frag) (C f : Addr) : Prop where
 makes : PySem.W.makesIn K C = true
 init : PySem.W.findIn K (.ref C) "__init__" = some (some (.ref f))
 fn : PySem.W.isFn K (.ref f) = true
 kp : PySem.W.keepIn K (.ref C) = true
theorem run_make {pins : List (Addr × Obj)} {σ : St} {H : Hp} {s : Shared} {Q : VK} {us : List Value} {vs : List V} (M : Mk X.K C f) (F : FnOk X.prog X.w X.K X.mg X.base CX k f fd ps sp) (hr : Room (k + 1) X.A) (hb : Binds X.K fd ps ds) (hd : Vals dvs ds)
  (hx : Passes CX X E) (I : Inv X pins σ H s) (r : Vals vs us)
  (h : ∀ x dx, H x = none -> H dx = none -> dx ≠ x -> sp (.ref x :: (vs ++ dvs)) (upd (upd H dx (.own x)) x (.ins C dx [])) (fun v H2 => v = .non /\ Q (.ref x) H2) E) :
  wpAny (model X.prog X.w) X.A (call (.ref C) us) (EP X pins σ Q) X.xe s := by
 have hq := h (s.heap.objs.size + 1) s.heap.objs.size (I.hok.fresh (Nat.le_succ _)) (I.hok.fresh (Nat.le_refl _)) (Nat.ne_of_lt (Nat.lt_succ_self _))
 have I2 := Inv.made (C := C) I
 have r2 : Vals (V.ref (s.heap.objs.size + 1) :: (vs ++ dvs)) (Value.ref (s.heap.objs.size + 1) :: (us ++ ds)) := .cons rfl (r.append hd)
 have hl : (Value.ref (s.heap.objs.size + 1) :: us ++ ds).length = ps.length := by
  have e := r2.length
  rw [F.len _ _ _ _ hq] at e
  exact e.symm
 refine wpAny_call (make_map (f := f) I.kIn M.makes M.init (beq_iff_eq.mp M.fn) (codeAny_mono (F.run _ X.stack _ _ ⟨Value.ref (s.heap.objs.size + 1) :: us, []⟩ (Value.ref (s.heap.objs.size + 1) :: (us ++ ds)) _ _ E (hr.make C us [])
  (I2.env0.make C us []) (hb _ (Value.ref (s.heap.objs.size + 1) :: us) I2.kIn hl) r2 hq) fun r s' hq' => ?_))
 cases r with
 | error e => exact hx pins σ _ _ e s' I2 hq'
 | ok fl =>
  cases fl with
  | ret u =>
   refine gz9 fun _ bk0 => ?_
   obtain ⟨v, H', I3, rv, ev, q3⟩ := I2.after hq'
   refine bk0 ?_
   subst ev
   exact ⟨rv, ⟨V.ref (s.heap.objs.size + 1), H', I3, rfl, q3⟩⟩
  | next => exact False.elim hq'
  | brk => exact False.elim hq'
  | cont => exact False.elim hq'
theorem pe_make (M : Mk X.K C f) (F : FnOk X.prog X.w X.K X.mg X.base CX k f fd ps sp) (hr : Room (k + 1) X.A) (hg : Gl X x) (hm : X.mg x = some (.ref C)) (hb : Binds X.K fd ps ds) (hd : Vals dvs ds) (hx : Passes CX X E)
  (ha : PA X (e :: es) t) (hdb : (x == ("__debug__" : Str)) = false := by decide) (he : starEach (e :: es) X.env = (false, eval e X.env) :: starEach es X.env := by rfl) (hpl : (backTo pos (starEach es X.env)).any (·.1) = false := by rfl) :
  PE X (.Call (.Name x p) (e :: es) [] pos) (tMake C sp dvs E t) := by
 intro pins s σ H Q I h
 refine wpAny_Call_Name_kw (ld_glob I hg hm ?_ hdb)
 refine PySem.W.callWith_K (h₀ := X.base) I.ok.mod.kin M.kp (thn (ha pos pins s σ H _ I h) fun us s1 pk0 => ?_) he hpl
 refine gz9 fun _ bk0 => ?_
 obtain ⟨vs, H1, I1, r, q⟩ := pk0
 refine bk0 ?_
 refine ⟨I1.kIn, ?_⟩
 exact run_make M F hr hb hd hx I1 r q
end
noncomputable def PK (X : Cx) (kws : List Keyword) (t : TA) : Prop :=
 ∀ (pos : Pos) (pins : List (Addr × Obj)) (s : Shared) (σ : St) (H : Hp) (Q : List V -> Hp -> Prop), Inv X pins σ H s -> t σ H Q -> wpAny (model X.prog X.w) X.A (evalAll ((backToKw pos (keywordEach kws X.env)).map (·.2))) (AP X pins σ Q) X.xe s
section
variable {X : Cx} {CX : CXT} {k : Nat} {f C : Addr} {fd : FuncData} {ps ks : List Str} {sp : Sp} {E : XK} {x m : Str} {p pos apos kpos : Pos} {e o : Expr} {es : List Expr} {kws : List Keyword} {te ta : TE} {t tk : TA} {nm : Option Str}
structure KBinds (K : W.Frag) (fd : FuncData) (ps ks : List Str) (g : List Value -> List Value -> List Value) (gV : List V -> List V -> List V) : Prop where
 to : ∀ (s : Shared) (us ws : List Value), K.In s.heap -> (g us ws).length = ps.length -> BindsTo s fd ⟨us, ks.zip ws⟩ (ps.zip (g us ws))
 rel : ∀ {vs : List V} {us : List Value} {zs : List V} {ws : List Value}, Vals vs us -> Vals zs ws -> Vals (gV vs zs) (g us ws)
noncomputable def tCallK (sp : Sp) (gV : List V -> List V -> List V) (E : XK) (t tk : TA) : TE := fun σ H Q => t σ H fun vs H1 => tk σ H1 fun zs H2 => sp (gV vs zs) H2 Q E
variable {g : List Value -> List Value -> List Value} {gV : List V -> List V -> List V}
end
structure FnScope (N P : List Str) (sc : Scope) : Prop where
 kind : sc.kind = .function
 co : sc.isCoroutine = false
 gen : sc.isGenerator = false
 nd : N.Nodup
 pre : N.take P.length = P
 par : ∀ x ∈ P, sc.names.lookup x = some .local \/ sc.names.lookup x = some .cell
 nofree : ∀ y ∈ sc.names, y.2 ≠ .free
theorem bindL_out {kindOf : Str -> Option NameKind} {x : Str} : ∀ {binds : List (Str × Value)} {m : Str -> Option Value}, (∀ v, (x, v) ∉ binds) -> bindL kindOf binds m x = m x
 | [], _, _ => rfl
 | (n, v) :: r, m, h => by
  unfold bindL
  rw [bindL_out fun w hw => h w (List.mem_cons_of_mem _ hw)]
  split
  ·have : x ≠ n := by rintro rfl; exact h v List.mem_cons_self
   simp [this]
  ·rfl
theorem bindC_out {kindOf : Str -> Option NameKind} {x : Str} : ∀ {binds : List (Str × Value)} {m : Str -> Option Value}, (∀ v, (x, v) ∉ binds) -> bindC kindOf binds m x = m x
 | [], _, _ => rfl
 | (n, v) :: r, m, h => by
  unfold bindC
  rw [bindC_out fun w hw => h w (List.mem_cons_of_mem _ hw)]
  split
  ·rfl
  ·have : x ≠ n := by rintro rfl; exact h v List.mem_cons_self
   simp [this]
theorem bindL_get {kindOf : Str -> Option NameKind} {x : Str} {v : Value} : ∀ {P : List Str} {vs : List Value} {i : Nat} {m : Str -> Option Value}, P.Nodup -> P[i]? = some x -> vs[i]? = some v -> kindOf x = some .local →
  bindL kindOf (P.zip vs) m x = some v
 | [], _, _, _, _, h, _, _ => by simp at h
 | _ :: _, [], _, _, _, _, h, _ => by simp at h
 | p :: P, w :: vs, 0, m, nd, h1, h2, hk => by
  simp at h1 h2; subst h1; subst h2
  show bindL kindOf ((p, w) :: P.zip vs) m p = _
  unfold bindL
  rw [bindL_out fun v hv => (List.nodup_cons.mp nd).1 (List.of_mem_zip hv).1, if_pos hk]
  simp
 | p :: P, w :: vs, i + 1, m, nd, h1, h2, hk => by
  show bindL kindOf ((p, w) :: P.zip vs) m x = _
  unfold bindL
  exact bindL_get (i := i) (List.nodup_cons.mp nd).2 (by simpa using h1) (by simpa using h2) hk
theorem bindC_get {kindOf : Str -> Option NameKind} {x : Str} {v : Value} : ∀ {P : List Str} {vs : List Value} {i : Nat} {m : Str -> Option Value}, P.Nodup -> P[i]? = some x -> vs[i]? = some v -> kindOf x ≠ some .local →
  bindC kindOf (P.zip vs) m x = some v
 | [], _, _, _, _, h, _, _ => by simp at h
 | _ :: _, [], _, _, _, _, h, _ => by simp at h
 | p :: P, w :: vs, 0, m, nd, h1, h2, hk => by
  simp at h1 h2; subst h1; subst h2
  show bindC kindOf ((p, w) :: P.zip vs) m p = _
  unfold bindC
  rw [bindC_out fun v hv => (List.nodup_cons.mp nd).1 (List.of_mem_zip hv).1, if_neg hk]
  simp
 | p :: P, w :: vs, i + 1, m, nd, h1, h2, hk => by
  show bindC kindOf ((p, w) :: P.zip vs) m x = _
  unfold bindC
  exact bindC_get (i := i) (List.nodup_cons.mp nd).2 (by simpa using h1) (by simpa using h2) hk
noncomputable def start (N : List Str) (vs : List V) : St := vs.map some ++ List.replicate (N.length - vs.length) none
noncomputable def cxOf (CX : CXT) (P : Program) (w : World) (K : W.Frag) (mg : Str -> Option Value) (base : Heap) (N : List Str) (qual : Str) (scope : Scope) (f : Addr) (cd : Value) (A : Around) (outer : List Env) (s : Shared) (H : Hp) (E : XK) : Cx where
 prog := P
 w := w
 K := K
 mg := mg
 base := base
 A := A.deeper (envOfC qual scope s.heap.objs.size f cd)
 N := N
 s₀ := s
 H₀ := H
 env := envOfC qual scope s.heap.objs.size f cd
 outer := outer
 stack := envOfC qual scope s.heap.objs.size f cd :: outer
 ex := []
 calm := true
 fn := fun _ => true
 pn := []
 xe := fun e s' => wpAny (model P w) (A.deeper (envOfC qual scope s.heap.objs.size f cd)) (leaving (envOfC qual scope s.heap.objs.size f cd) e) (fun _ s'' => CX outer H s E e s'') (fun e' s'' => CX outer H s E e' s'') s'
theorem cell_has {sc : Scope} {n : Nat} {x : Str} (h : sc.names.lookup x = some .cell) : ∃ c, (cellsFrom n sc.names []).lookup x = some c := by
 have q := PySem.W.cellsFrom_some sc.names n [] (.inl h)
 exact Option.isSome_iff_exists.mp q
theorem inv_start {CX : CXT} {P : Program} {w : World} {K : W.Frag} {mg : Str -> Option Value} {base : Heap} {N ps : List Str} {qual : Str} {scope : Scope} {f : Addr} {cd : Value} {A : Around} {outer : List Env} {s s1 : Shared} {H : Hp} {E : XK} {us : List Value} {vs : List V}
  (S : FnScope N ps scope) (hd : A.handled = none) (e0 : Env0 P w K mg base A outer s H) (hl : vs.length = ps.length) (r : Vals vs us)
  (x : InCallC s s.heap.objs.size (bindL (envOfC qual scope s.heap.objs.size f cd).kindOf (ps.zip us) fun _ => none) (cellsFrom (s.heap.objs.size + 1) scope.names []) (bindC (envOfC qual scope s.heap.objs.size f cd).kindOf (ps.zip us) fun _ => none) s1) :
  Inv (cxOf CX P w K mg base N qual scope f cd A outer s H E) [] (start N vs) H s1 := by
 have hpl : ps.length <= N.length := by have := congrArg List.length S.pre; rw [List.length_take] at this; (first | lia | omega)
 refine gz9 fun _ bk0 => ?_
 obtain ⟨h1, tk, rfl, hk⟩ := x.done
 refine bk0 ?_
 have noA : ∀ b : Addr, b ∉ (cxOf CX P w K mg base N qual scope f cd A outer s H E).ex := fun b z => absurd (show b ∈ ([] : List Addr) from z) (by simp)
 refine ⟨⟨e0.mod, S.kind, rfl, rfl, Nat.le_refl _, fun y z c h1 h2 => ?_, fun y hy => ?_, fun y c _ h => ?_, fun _ => hd, Around.frames_deeper e0.frames, .inr ⟨rfl, rfl⟩, fun b z => absurd z (noA b), e0.bs, e0.bsz, fun b _ _ => noA b, fun b z => absurd z (noA b), e0.funs, e0.frf⟩,
  rfl, e0.bare, Un.kept hk, ⟨_, x.toInCall.ns, fun i y v h1 h2 h3 => ?_⟩, fun y c h => ⟨_, x.cell y c h⟩, e0.hok.fresh (Nat.le_refl _), fun y c h => ?_, fun p hp => absurd (show p ∈ ([] : List (Addr × Obj)) from hp) (by simp), e0.hok.kept hk, ?_⟩
 ·exact name_of_addr x.apart (PySem.mem_of_lookup h1) (PySem.mem_of_lookup h2)
 ·have hy : scope.names.lookup y = some .cell \/ scope.names.lookup y = some .free := hy
  rcases hy with hy | hy
  ·exact cell_has hy
  ·exact absurd rfl (S.nofree _ (PySem.mem_of_lookup hy))
 ·exact Nat.le_of_lt (x.above y c (PySem.mem_of_lookup h))
 ·have hi : i < vs.length := by
   unfold start at h2
   by_cases hi : i < vs.length
   ·exact hi
   ·rw [List.getElem?_append_right (by simpa using hi)] at h2
    rw [List.getElem?_replicate] at h2
    split at h2 <;> cases h2
  have ha : vs[i]? = some v := by
   unfold start at h2
   rw [List.getElem?_append_left (by simpa using hi), List.getElem?_map] at h2
   cases e : vs[i]? with
   | none => rw [e] at h2; cases h2
   | some a => rw [e] at h2; cases h2; rfl
  obtain ⟨u, hu, rv⟩ := r.get ha
  have hp : ps[i]? = some y := by
   rw [<- S.pre, List.getElem?_take_of_lt (by (first | lia | omega))]; exact h1
  have ndP : ps.Nodup := by rw [<- S.pre]; exact S.nd.sublist (List.take_sublist _ _)
  refine ⟨u, rv, ?_⟩
  rcases S.par y (List.mem_of_getElem? hp) with k | k
  ·exact .inl ⟨k, bindL_get ndP hp hu k⟩
  ·obtain ⟨c, e⟩ := cell_has (n := s.heap.objs.size + 1) k
   refine .inr ⟨.inl k, c, e, ?_⟩
   have q := x.cell y c e
   rw [bindC_get ndP hp hu (by show scope.names.lookup y ≠ _; rw [k]; decide)] at q
   exact q
 ·exact e0.hok.fresh (Nat.le_of_lt (x.above y c (PySem.mem_of_lookup h)))
 ·unfold start
  show _ = N.length
  rw [List.length_append, List.length_map, List.length_replicate]
  (first | lia | omega)
theorem fn_of {CX : CXT} {P : Program} {w : World} {K : W.Frag} {mg : Str -> Option Value} {base : Heap} {k : Nat} {f : Addr} {name qual : Str} {params : Arguments} {body : List Stmt} {scope : Scope} {dV kV doc pm cdv ct oc : Value} {an od : Option Addr}
  {osl : Array (Option Value)} {N ps : List Str} {sp : Sp} (lk : K.lookup f = some ⟨oc, od, .func (PySem.W.fnOf name qual params body scope dV kV doc pm an cdv ct), osl⟩) (hcd : PySem.W.codeIn K cdv qual = true) (S : FnScope N ps scope)
  (len : ∀ vs H Q E, sp vs H Q E -> vs.length = ps.length)
  (hbody : ∀ (A : Around) (outer : List Env) (s : Shared) (H : Hp) (vs : List V) (Q : VK) (E : XK), Room k (A.deeper (envOfC qual scope s.heap.objs.size f cdv)) -> sp vs H Q E →
   ∃ t, PSs (cxOf CX P w K mg base N qual scope f cdv A outer s H E) body t /\ t { nx := fun _ H' => Q .non H', rt := Q } (start N vs) H) :
  FnOk P w K mg base CX (k + 1) f (PySem.W.fnOf name qual params body scope dV kV doc pm an cdv ct) ps sp := by
 refine ⟨len, fun A outer s H args us vs Q E hr e0 hb r hsp => ?_⟩
 have hl := len _ _ _ _ hsp
 have KX : K.In s.heap := e0.mod.kin.keeps fun b o e => (e0.bs b o e).1
 have lim : s.heap.NoLimit := e0.mod.nolimit.keeps fun b o e => (e0.bs b o e).1
 have hkind : ∀ y ∈ ps.zip us, scope.names.lookup y.1 = some .local \/ (scope.names.lookup y.1 = some .cell /\ ((cellsFrom (s.heap.objs.size + 1) scope.names []).lookup y.1).isSome = true) := fun ⟨n, v⟩ hy => by
  rcases S.par n (List.of_mem_zip hy).1 with q | q
  ·exact .inl q
  ·exact .inr ⟨q, PySem.W.cellsFrom_some _ _ _ (.inl q)⟩
 refine codeAny_call_function hr.depth (KX _ _ lk) rfl S.co S.gen rfl (PySem.W.codeRec_of KX hcd) (hb _ _ _ _ ?_)
 refine wpAny_newFunctionEnv_cells S.kind hkind fun env he s1 x => ?_
 subst he
 refine ⟨lim.keeps x.toInCall.keep, codeAny_func ?_⟩
 obtain ⟨t, ht, hq⟩ := hbody A outer s H vs Q E (hr.deeper _) hsp
 have I : Inv (cxOf CX P w K mg base N qual scope f cdv A outer s H E) [] (start N vs) H s1 := inv_start S hr.hd e0 hl r x
 refine wpAny_mono (ht [] s1 (start N vs) H _ I hq) (fun fl s' hs => ?_) fun e s' hs => hs
 have fin : ∀ {σ' : St} {H' : Hp} {v : V} {u : Value}, Inv (cxOf CX P w K mg base N qual scope f cdv A outer s H E) [] σ' H' s' -> RelV v u -> Q v H' -> CE outer P w H s Q u s' :=
  fun {σ' H' v u} J rv q => ⟨v, H', J.os, J.bare, J.base, J.hok, rv, q⟩
 cases fl with
 | ret u =>
  refine gz9 fun _ bk0 => ?_
  obtain ⟨v, σ', H', J, rv, q⟩ := hs
  refine bk0 ?_
  exact fin J rv q
 | next =>
  refine gz9 fun _ bk0 => ?_
  obtain ⟨σ', H', J, q⟩ := hs
  refine bk0 ?_
  exact fin (v := V.non) (u := Value.none) J rfl q
 | brk =>
  refine gz9 fun _ bk0 => ?_
  obtain ⟨_, _, _, q⟩ := hs
  refine bk0 ?_
  exact False.elim q
 | cont =>
  refine gz9 fun _ bk0 => ?_
  obtain ⟨_, _, _, q⟩ := hs
  refine bk0 ?_
  exact False.elim q
end L2
namespace L2
open PySem PySem.Spec PyProof.Rows
section
variable {X : Cx} {x : Str} {p pos : Pos} {e : Expr} {es : List Expr} {t : TA} {id T : String} {r : List V -> Hp -> VK -> Prop}
noncomputable def tCB (r : List V -> Hp -> VK -> Prop) (t : TA) : TE := fun σ H Q => t σ H fun vs H1 => r vs H1 Q
theorem pe_callB (hc : CallR X (.builtin id) r) (hg : Gl X x) (hm : X.mg x = none) (hv : bootBuiltins x = some (.builtin id)) (ha : PA X (e :: es) t) (hn : x ≠ "__name__" := by decide) (hdb : (x == ("__debug__" : Str)) = false := by decide)
  (he : starEach (e :: es) X.env = (false, eval e X.env) :: starEach es X.env := by rfl) (hpl : (backTo pos (starEach es X.env)).any (·.1) = false := by rfl) : PE X (.Call (.Name x p) (e :: es) [] pos) (tCB r t) := by
 intro pins s σ H Q I h
 refine wpAny_Call_Name_kw (ld_blt I hg hm hv ?_ hn hdb)
 refine PyProof.Rows.callWith_builtin1 (thn (ha pos pins s σ H _ I h) fun us s1 pk0 => ?_) he hpl
 refine gz9 fun _ bk0 => ?_
 obtain ⟨vs, H1, I1, r1, q1⟩ := pk0
 refine bk0 ?_
 exact hc pins s1 σ H1 vs us Q I1 r1 q1
theorem pe_callTy (hc : CallR X (.type T) r) (hg : Gl X x) (hm : X.mg x = none) (hv : bootBuiltins x = some (.type T)) (ha : PA X (e :: es) t) (hn : x ≠ "__name__" := by decide) (hdb : (x == ("__debug__" : Str)) = false := by decide)
  (he : starEach (e :: es) X.env = (false, eval e X.env) :: starEach es X.env := by rfl) (hpl : (backTo pos (starEach es X.env)).any (·.1) = false := by rfl) : PE X (.Call (.Name x p) (e :: es) [] pos) (tCB r t) := by
 intro pins s σ H Q I h
 refine wpAny_Call_Name_kw (ld_blt I hg hm hv ?_ hn hdb)
 refine PyProof.Rows.callWith_type1 (thn (ha pos pins s σ H _ I h) fun us s1 pk0 => ?_) he hpl
 refine gz9 fun _ bk0 => ?_
 obtain ⟨vs, H1, I1, r1, q1⟩ := pk0
 refine bk0 ?_
 exact hc pins s1 σ H1 vs us Q I1 r1 q1
end
end L2
namespace HT
open PySem PyProof.Rows
noncomputable def lexLt : List Int -> List Int -> Bool
 | [], [] => false
 | [], _ :: _ => true
 | _ :: _, [] => false
 | x :: xs, y :: ys => if x = y then lexLt xs ys else decide (x < y)
theorem lexLt_cons (x y : Int) (xs ys : List Int) : lexLt (x :: xs) (y :: ys) = if x = y then lexLt xs ys else decide (x < y) := rfl
theorem lexLt_nil_nil : lexLt [] [] = false := rfl
theorem lexLt_nil_cons (y : Int) (ys : List Int) : lexLt [] (y :: ys) = true := rfl
theorem lexLt_cons_nil (x : Int) (xs : List Int) : lexLt (x :: xs) [] = false := rfl
theorem eqAt_int (A : Around) (s : Shared) (a : Int) (t : Tok) (c : Int) (u : Tok) : ∃ e, SeqAt.EqAt A s (.int a t) (.int c u) e /\ (e = true ↔ a = c) :=
 ⟨(a == c), SeqAt.EqAt.int_int a t c u, by simp⟩
theorem rcLt_int (A : Around) (s : Shared) (a : Int) (t : Tok) (c : Int) (u : Tok) (prog : Program) (w : World) (E : Value -> Shared -> Prop) (Q : Value -> Shared -> Prop) (h : Q (.bool (decide (a < c))) s) :
  wpAny (model prog w) A (richCompare .Lt (.int a t) (.int c u)) Q E s :=
 (PyProof.Rows.lt_int h : wpAny (model prog w) A (compareOp .Lt (.int a t) (.int c u)) Q E s)
section
open PySem.SeqAt
open PySem.AutoSeq1 (wpAny_loadPart')
open PySem.MeetsSeq PySem.MeetsSeq2 PySem.MeetsSeq3
theorem tuple_lt_ints (l b : Addr) (items items2 : Array Value) (n n2 : Nat) (dd dd2 : Option Addr) (sl sl2 : Array (Option Value)) (ns ms : List Int) (hi : IntsAre items.toList ns) (hj : IntsAre items2.toList ms) :
  Meets (Builtin.«tuple.__lt__» ⟨[.ref l, .ref b], []⟩)
   (fun _ R s => s.heap.get? l = some { cls := .type "tuple", dict := dd, data := .seq items n, slots := sl } /\ s.heap.get? b = some { cls := .type "tuple", dict := dd2, data := .seq items2 n2, slots := sl2 } ∧
    R (.ok (.ret (.bool (lexLt ns ms)))) s) :=
 .of_wp fun prog w A R s h => by
  refine gz9 fun _ bk0 => ?_
  obtain ⟨hp, g, d, tk, os⟩ := s; obtain ⟨hl, hb, h⟩ := h
  refine bk0 ?_
  have f2 := AutoSeq1.sub_tuple_tuple
  have z1 : items.size = ns.length := by rw [<- hi.length]; simp
  have z2 : items2.size = ms.length := by rw [<- hj.length]; simp
  wp_walk using wpAny_loadPart' hl, wpAny_loadPart' hb, wpAny_forIn_list _ (fun rest b s' => b.1 = none /\ s' = ⟨hp, g, d, tk, os⟩ /\ ∃ (vs ws : List Value) (ns' ms' : List Int), rest = vs.zip ws ∧
   IntsAre vs ns' /\ IntsAre ws ms' /\ ns'.length + items2.size = ms'.length + items.size /\ R (.ok (.ret (.bool (lexLt ns' ms')))) ⟨hp, g, d, tk, os⟩) _
  case turn =>
   rintro ⟨y, x⟩ rest b s' ⟨hb', rfl, vs, ws, ns', ms', hz, hvi, hwi, hlen, hR⟩
   cases hvi with
   | nil => rw [List.zip_nil_left] at hz; cases hz
   | cons a t hvi' =>
    cases hwi with
    | nil => rw [List.zip_nil_right] at hz; cases hz
    | cons c u hwi' =>
     rw [List.zip_cons_cons] at hz
     injection hz with hyx hrest
     injection hyx with hy hx
     subst hy hx
     rw [lexLt_cons] at hR
     simp only [List.length_cons] at hlen
     obtain ⟨e, he, hiff⟩ := eqAt_int A.in1 ⟨hp, g, d, tk, os⟩ a t c u
     refine wpAny_bind (he prog w _ _ ?_)
     cases e with
     | true =>
      rw [if_pos (hiff.mp rfl)] at hR
      wp_walk
      exact ⟨rfl, rfl, _, _, _, _, hrest, hvi', hwi', by (first | lia | omega), hR⟩
     | false =>
      rw [if_neg (fun q => absurd (hiff.mpr q) Bool.false_ne_true)] at hR
      have hri := rcLt_int A.in1 ⟨hp, g, d, tk, os⟩ a t c u prog w
      wp_walk using hri
      exact ⟨_, rfl, by simpa using hR⟩
  case fin =>
   rintro ⟨b1, b2⟩ s' ⟨hb', rfl, vs, ws, ns', ms', hz, hvi, hwi, hlen, hR⟩
   simp only at hb'
   subst hb'
   have hv : lexLt ns' ms' = decide (items.size < items2.size) := by
    cases hvi with
    | nil =>
     cases hwi with
     | nil =>
      simp only [List.length_nil] at hlen
      rw [lexLt_nil_nil]
      exact (decide_eq_false (by (first | lia | omega))).symm
     | cons c u hw =>
      simp only [List.length_nil, List.length_cons] at hlen
      rw [lexLt_nil_cons]
      exact (decide_eq_true (by (first | lia | omega))).symm
    | cons a t hv =>
     cases hwi with
     | nil =>
      simp only [List.length_nil, List.length_cons] at hlen
      rw [lexLt_cons_nil]
      exact (decide_eq_false (by (first | lia | omega))).symm
     | cons c u hw =>
      rw [List.zip_cons_cons] at hz
      cases hz
   rw [hv] at hR
   wp_walk
   exact ⟨_, rfl, by simpa [Builtin.Tuple.tupleCompareSizes] using hR⟩
  case h =>
   exact ⟨rfl, rfl, items.toList, items2.toList, ns, ms, rfl, hi, hj, by (first | lia | omega), h⟩
end
section
variable {prog : Program} {w : World} {A : Around} {E : Value -> Shared -> Prop} {s : Shared}
theorem lt_tupInts {l b : Addr} {items items2 : Array Value} {ns ms : List Int} {Q : Value -> Shared -> Prop} (hl : IsTup s.heap l items) (hb : IsTup s.heap b items2) (hi : IntsAre items.toList ns) (hj : IntsAre items2.toList ms)
  (hu : A.units < cLine) (h : Q (.bool (lexLt ns ms)) s) : wpAny (model prog w) A (compareOp .Lt (.ref l) (.ref b)) Q E s := by
 refine gz9 fun _ bk0 => ?_
 obtain ⟨⟨cls, dd, data, sl⟩, ho, hc, n, hd⟩ := id hl
 obtain ⟨⟨cls2, dd2, data2, sl2⟩, ho2, hc2, n2, hd2⟩ := id hb
 refine bk0 ?_
 simp only at hc hd hc2 hd2
 subst hc hd hc2 hd2
 exact richCompare_meets_room (op := .Lt) ⟨_, ho, rfl⟩ ⟨_, ho2, rfl⟩ PySem.F.slot_tuple_lt PySem.F.entry_tuple_lt (PySem.F.args_tuple_lt_2 _ _) (tuple_lt_ints l b items items2 n n2 dd dd2 sl sl2 ns ms hi hj)
  ⟨ho, ho2, show Value.bool (lexLt ns ms) ≠ Value.notImplemented /\ Q (.bool (lexLt ns ms)) s from ⟨(fun x => nomatch x), h⟩⟩ hu
noncomputable def sIx (n d : Nat) : Option Int -> Nat
 | none => d
 | some v => if v < 0 then (v + (n : Int)).toNat else min v.toNat n
end
end HT
namespace L2
open PySem PySem.Spec PyProof.Rows
noncomputable abbrev TO := St -> Hp -> (Option Int -> Hp -> Prop) -> Prop
noncomputable def PO (X : Cx) (e : Option Expr) (t : TO) : Prop :=
 ∀ (pins : List (Addr × Obj)) (s : Shared) (σ : St) (H : Hp) (Q : Option Int -> Hp -> Prop), Inv X pins σ H s -> t σ H Q →
  wpAny (model X.prog X.w) X.A (evalPart e X.env) (fun u s' => ∃ o H', Inv X pins σ H' s' /\ IsPart u o /\ Q o H') X.xe s
noncomputable def tNoPart : TO := fun _ H Q => Q none H
noncomputable def tPart (t : TE) : TO := fun σ H Q => t σ H fun x H1 => ∃ i, x = .int i /\ Q (some i) H1
theorem intsAre_of {ns : List Int} : ∀ {us : List Value}, Vals (ns.map V.int) us -> IntsAre us ns := by
 induction ns with
 | nil => intro us r; rw [List.map_nil] at r; cases r; exact .nil
 | cons n ns ih =>
  intro us r
  rw [List.map_cons] at r
  cases r with
  | cons r1 r2 =>
   obtain ⟨t, e⟩ := r1
   subst e
   exact .cons n t (ih r2)
section
variable {X : Cx} {e : Expr} {te : TE} {lo hi : Option Expr} {tl th : TO} {pos p2 : Pos}
theorem po_none : PO X none tNoPart := by
 intro pins s σ H Q I h
 rw [evalPart_none]
 exact wpAny_pure ⟨none, H, I, .none, h⟩
theorem po_some (h : PE X e te) : PO X (some e) (tPart te) := by
 intro pins s σ H Q I hw
 rw [evalPart_some]
 refine thn (h pins s σ H _ I hw) fun u s1 pk0 => ?_
 refine gz9 fun _ bk0 => ?_
 obtain ⟨x, H1, I1, r1, q1⟩ := pk0
 obtain ⟨i, rfl, q⟩ := q1
 obtain ⟨t, rfl⟩ := r1
 refine bk0 ?_
 exact ⟨some i, H1, I1, .int i t, q⟩
noncomputable def SlR (X : Cx) (r : V -> Option Int -> Option Int -> Hp -> VK -> Prop) : Prop :=
 ∀ (pins : List (Addr × Obj)) (s : Shared) (σ : St) (H : Hp) (x : V) (v vl vu : Value) (lo hi : Option Int) (sl : Addr) (Q : VK), Inv X pins σ H s -> RelV x v -> s.heap.IsSliceOf sl vl vu .none -> IsPart vl lo -> IsPart vu hi -> r x lo hi H Q →
  ∃ T id, typeLookup (.type T) "__getitem__" = pure (some (.builtin id)) /\ s.TypeIs v T /\ wpAny (model X.prog X.w) X.A (getItem v (.ref sl)) (EP X pins σ Q) X.xe s
noncomputable def tSl (r : V -> Option Int -> Option Int -> Hp -> VK -> Prop) (te : TE) (tl th : TO) : TE := fun σ H Q => te σ H fun x H1 => tl σ H1 fun l H2 => th σ H2 fun u H3 => r x l u H3 Q
theorem pe_slice {r : V -> Option Int -> Option Int -> Hp -> VK -> Prop} (hr : SlR X r) (he : PE X e te) (hl : PO X lo tl) (hu : PO X hi th) : PE X (.Subscript e (.Slice lo hi none p2) pos) (tSl r te tl th) := by
 intro pins s σ H Q I h
 refine Subscript_ (thn (he pins s σ H _ I h) fun v s1 pk0 => ?_)
 refine gz9 fun _ bk0 => ?_
 obtain ⟨x, H1, I1, r1, q1⟩ := pk0
 refine bk0 ?_
 refine wpAny_Slice (thn (hl pins s1 σ H1 _ I1 q1) fun vl s2 pk0 => ?_)
 refine gz9 fun _ bk0 => ?_
 obtain ⟨l, H2, I2, pl, q2⟩ := pk0
 refine bk0 ?_
 refine thn (hu pins s2 σ H2 _ I2 q2) fun vu s3 pk0 => ?_
 refine gz9 fun _ bk0 => ?_
 obtain ⟨u, H3, I3, pu, q3⟩ := pk0
 refine bk0 ?_
 rw [evalPart_none]
 refine wpAny_pure ?_
 have I4 : Inv X pins σ H3 { s3 with heap := s3.heap.push { cls := .type "slice", data := .fields #[vl, vu, .none] } } := I3.kept (t' := s3.toks) fun b ob q => Heap.get?_push_of_some _ q
 refine gz9 fun _ bk0 => ?_
 obtain ⟨T, id, hT, ht, hg⟩ := hr pins { s3 with heap := s3.heap.push { cls := .type "slice", data := .fields #[vl, vu, .none] } } σ H3 x v vl vu l u s3.heap.objs.size Q I4 r1 (Heap.IsSliceOf.new ..) pl pu q3
 refine bk0 ?_
 show wpAny (model X.prog X.w) X.A (subscriptTail e (.Slice lo hi none p2) v (.ref s3.heap.objs.size)) (EP X pins σ Q) X.xe { s3 with heap := s3.heap.push { cls := .type "slice", data := .fields #[vl, vu, .none] } }
 exact tail_any (ops := [.ref s3.heap.objs.size, v]) ht hT hg (by with_unfolding_all rfl)
noncomputable def cutV (xs : List V) (lo hi : Option Int) : List V := (xs.drop (HT.sIx xs.length 0 lo)).take (HT.sIx xs.length xs.length hi - HT.sIx xs.length 0 lo)
theorem cutV_length (xs : List V) (lo hi : Option Int) : (cutV xs lo hi).length <= xs.length := by
 unfold cutV
 rw [List.length_take, List.length_drop]
 (first | lia | omega)
noncomputable def rSlT (K : W.Frag) : V -> Option Int -> Option Int -> Hp -> VK -> Prop := fun x lo hi H Q => ∃ a xs, x = .ref a /\ SqT K H a xs ∧
 ¬ (HT.sIx xs.length 0 lo = 0 /\ HT.sIx xs.length xs.length hi = xs.length) /\ ∀ p, H p = none -> Q (.ref p) (upd H p (.tup (cutV xs lo hi)))
noncomputable def rLtT (K : W.Frag) : R2 := fun x y H Q => ∃ a b ns ms, x = .ref a /\ y = .ref b /\ SqT K H a (ns.map V.int) /\ SqT K H b (ms.map V.int) /\ Q (.bl (HT.lexLt ns ms)) H
noncomputable def rCatT (K : W.Frag) : R2 := fun x y H Q => ∃ a b xs ys, x = .ref a /\ y = .ref b /\ SqT K H a xs /\ SqT K H b ys /\ xs ≠ [] /\ xs.length + ys.length <= sizeLine ∧
 (ys = [] -> Q (.ref a) H) /\ (ys ≠ [] -> ∀ p, H p = none -> Q (.ref p) (upd H p (.tup (xs ++ ys))))
end
end L2
namespace L2
open PySem PySem.Spec PyProof.Rows
noncomputable def ixN (n : Nat) (i : Int) : Option Nat := if 0 <= i then (if i < n then some i.toNat else none) else if -(n : Int) <= i then some (i + n).toNat else none
noncomputable def atI {α : Type} (xs : List α) (i : Int) : Option α := (ixN xs.length i).bind fun j => xs[j]?
theorem ixN_seq {n : Nat} {i : Int} {j : Nat} (h : ixN n i = some j) : seqIndex? i n = some j /\ j < n /\ -(n : Int) <= i /\ i < n := by
 unfold ixN at h
 by_cases h0 : 0 <= i
 ·rw [if_pos h0] at h
  by_cases h1 : i < n
  ·rw [if_pos h1] at h
   have e : i.toNat = j := Option.some.inj h
   exact ⟨by rw [seqIndex_of h0 h1, e], by (first | lia | omega), by (first | lia | omega), h1⟩
  ·rw [if_neg h1] at h; cases h
 ·rw [if_neg h0] at h
  by_cases h1 : -(n : Int) <= i
  ·rw [if_pos h1] at h
   have e : (i + n).toNat = j := Option.some.inj h
   exact ⟨by rw [seqIndex_neg (by (first | lia | omega)) h1, e], by (first | lia | omega), h1, by (first | lia | omega)⟩
  ·rw [if_neg h1] at h; cases h
theorem atI_get {α : Type} {xs : List α} {i : Int} {v : α} (h : atI xs i = some v) : ∃ j, seqIndex? i xs.length = some j /\ xs[j]? = some v /\ j < xs.length /\ -(xs.length : Int) <= i /\ i < xs.length := by
 unfold atI at h
 cases e : ixN xs.length i with
 | none => rw [e] at h; cases h
 | some j =>
  rw [e] at h
  refine gz9 fun _ bk0 => ?_
  obtain ⟨h1, h2, h3, h4⟩ := ixN_seq e
  refine bk0 ?_
  exact ⟨j, h1, h, h2, h3, h4⟩
theorem atI_nat {α : Type} {xs : List α} {j : Nat} {v : α} (h : xs[j]? = some v) : atI xs (j : Int) = some v := by
 have hj : j < xs.length := (List.getElem?_eq_some_iff.mp h).1
 have e : ixN xs.length (j : Int) = some j := by
  unfold ixN
  rw [if_pos (by (first | lia | omega)), if_pos (by (first | lia | omega))]; simp
 unfold atI; rw [e]; exact h
noncomputable def PlainIx (b : Expr) : Prop := ∀ o i, subscripted b false o i = operate [o, i] (getItem o i)
noncomputable def IxR (X : Cx) (r : R2) : Prop :=
 ∀ (value slice : Expr) (pins : List (Addr × Obj)) (s : Shared) (σ : St) (H : Hp) (x y : V) (v u : Value) (Q : VK), Inv X pins σ H s -> RelV x v -> RelV y u -> r x y H Q →
  subscripted slice false v u = operate [v, u] (getItem v u) -> wpAny (model X.prog X.w) X.A (subscriptTail value slice v u) (EP X pins σ Q) X.xe s
noncomputable def MtR (X : Cx) (id : String) (r : V -> List V -> Hp -> VK -> Prop) : Prop :=
 ∀ (pins : List (Addr × Obj)) (s : Shared) (σ : St) (H : Hp) (x : V) (xs : List V) (v : Value) (us : List Value) (Q : VK), Inv X pins σ H s -> RelV x v -> Vals xs us -> r x xs H Q →
  wpAny (model X.prog X.w) X.A (call (.builtin id) (v :: us)) (EP X pins σ Q) X.xe s
section
variable {X : Cx} {a b : Expr} {ta tb : TE} {pos : Pos}
theorem pe_ix {r : R2} (hr : IxR X r) (ha : PE X a ta) (hb : PE X b tb) (hs : PlainIx b) : PE X (.Subscript a b pos) (tOp r ta tb) := by
 intro pins s σ H Q I h
 exact Subscript_ (binT ha hb I h fun v u s2 x y H2 I2 rx ry q => hr a b pins s2 σ H2 x y v u Q I2 rx ry q (hs _ _))
noncomputable def rIxL (K : W.Frag) : R2 := fun x y H Q => ∃ p xs i v, x = .ref p /\ y = .int i /\ SqL K H p xs /\ atI xs i = some v /\ Q v H
noncomputable def rIxT (K : W.Frag) : R2 := fun x y H Q => ∃ p xs i v, x = .ref p /\ y = .int i /\ SqT K H p xs /\ atI xs i = some v /\ Q v H
noncomputable def rIxS : R2 := fun x y H Q => ∃ z i c, x = .str z /\ y = .int i /\ z.length <= sizeLine /\ atI z.cps.toList i = some c /\ Q (.str ⟨#[c]⟩) H
theorem ix_list : IxR X (rIxL X.K) := by
 intro value slice pins s σ H x y v u Q I rx ry h hs
 refine gz9 fun _ bk0 => ?_
 obtain ⟨p, xs, i, z, rfl, rfl, hq, he, q⟩ := h
 refine bk0 ?_
 cases rx
 refine gz9 fun _ bk0 => ?_
 obtain ⟨t, rfl⟩ := ry
 obtain ⟨its, r, pl, hz⟩ := I.list hq
 obtain ⟨j, h1, h2, h3, h4, h5⟩ := atI_get he
 obtain ⟨w, ew, rw'⟩ := r.get h2
 refine bk0 ?_
 have hl := r.length
 have hn := line63
 have fin : EP X pins σ Q w s := ⟨z, H, I, rw', q⟩
 by_cases h0 : 0 <= i
 ·have hj : i.toNat = j := by
   rw [seqIndex_of h0 h5] at h1
   exact Option.some.inj h1
  exact item_listR pl.isList h0 (by (first | lia | omega)) (by rw [hj]; simpa using ew) fin hs
 ·have hj : (i + (its.toArray.size : Int)).toNat = j := by
   rw [seqIndex_neg (by (first | lia | omega)) h4] at h1
   rw [List.size_toArray, <- hl]
   exact Option.some.inj h1
  exact subscriptTail_builtinR (x := w) pl.isList.typeIs slot_list_getitem.lookup
   (wpAny_getItem_list_neg (Q := fun r s' => r = w /\ EP X pins σ Q r s') pl.isList (by (first | lia | omega)) (by rw [List.size_toArray] <;> (first | lia | omega)) (by (first | lia | omega)) (by rw [hj]; simpa using ew) ⟨rfl, fin⟩) hs
theorem ix_tup : IxR X (rIxT X.K) := by
 intro value slice pins s σ H x y v u Q I rx ry h hs
 refine gz9 fun _ bk0 => ?_
 obtain ⟨p, xs, i, z, rfl, rfl, hq, he, q⟩ := h
 refine bk0 ?_
 cases rx
 refine gz9 fun _ bk0 => ?_
 obtain ⟨t, rfl⟩ := ry
 obtain ⟨its, r, pl, hz⟩ := I.tuple hq
 obtain ⟨j, h1, h2, h3, h4, h5⟩ := atI_get he
 obtain ⟨w, ew, rw'⟩ := r.get h2
 refine bk0 ?_
 have hl := r.length
 have hn := line63
 have fin : EP X pins σ Q w s := ⟨z, H, I, rw', q⟩
 exact subscriptTail_builtinR (x := w) pl.typeIs slot_tuple_getitem.lookup
  (getItem_tuple (j := j) (Q := fun r s' => r = w /\ EP X pins σ Q r s') pl (by (first | lia | omega)) (by (first | lia | omega)) (by rw [List.size_toArray, <- hl]; exact h1) (by simpa using ew) ⟨rfl, fin⟩) hs
noncomputable def rIx (K : W.Frag) : R2 := fun x y H Q => rIxL K x y H Q \/ rIxT K x y H Q \/ rIxS x y H Q
theorem mapSeq_set (its : List Value) (n j : Nat) (u : Value) : Obj.mapSeq (·.setIfInBounds j u) { cls := .type "list", data := .seq its.toArray n } = { cls := .type "list", data := .seq (its.set j u).toArray n } := by
 simp [Obj.mapSeq]
theorem Inv.lst {pins : List (Addr × Obj)} {σ : St} {H : Hp} {s : Shared} {p : Addr} {xs : List V} (I : Inv X pins σ H s) (h : H p = some (.lst xs)) :
  ∃ (its : List Value) (n : Nat), Vals xs its /\ s.heap.get? p = some { cls := .type "list", data := .seq its.toArray n } /\ xs.length <= sizeLine := by
 refine gz9 fun _ bk0 => ?_
 obtain ⟨z, its, n, r, e⟩ := I.hok p _ h
 refine bk0 ?_
 exact ⟨its, n, r, e, z⟩
theorem Inv.lstUpd {pins : List (Addr × Obj)} {σ : St} {H : Hp} {s : Shared} {p : Addr} {xs ys : List V} {its its' : List Value} {n n' : Nat} {f : Obj -> Obj} (I : Inv X pins σ H s) (h : H p = some (.lst xs))
  (ho : s.heap.get? p = some { cls := .type "list", data := .seq its.toArray n }) (hf : f { cls := .type "list", data := .seq its.toArray n } = { cls := .type "list", data := .seq its'.toArray n' }) (r : Vals ys its') (hz : ys.length <= sizeLine) (t : Nat) :
  Inv X pins σ (upd H p (.lst ys)) { s with heap := s.heap.update p f, toks := t } := by
 have e : (s.heap.update p f).get? p = some { cls := .type "list", data := .seq its'.toArray n' } := by
  rw [Heap.get?_update_self f ho (by rw [hf] <;> rfl), hf]
 refine I.write (x := p) (e := p) (by rw [h]; trivial) (.inl rfl) (fun b u hb q => (Heap.get?_update_other _ _ (Ne.symm hb)).trans q) ⟨_, e⟩ ?_
 exact ⟨hz, its', n', r, e⟩
noncomputable def rSetL : V -> V -> V -> Hp -> (Hp -> Prop) -> Prop := fun o i v H Q => ∃ p xs k j, o = .ref p /\ i = .int k /\ H p = some (.lst xs) /\ ixN xs.length k = some j /\ Q (upd H p (.lst (xs.set j v)))
theorem set_list : PSet X rSetL := by
 intro pins s σ H o i v ov iv u Q I ro ri rv h
 refine gz9 fun _ bk0 => ?_
 obtain ⟨p, xs, k, j, rfl, rfl, hp, hj, q⟩ := h
 refine bk0 ?_
 cases ro
 refine gz9 fun _ bk0 => ?_
 obtain ⟨t, rfl⟩ := ri
 obtain ⟨its, n, r, ho, hz⟩ := I.lst hp
 obtain ⟨h1, h2, h3, h4⟩ := ixN_seq hj
 refine bk0 ?_
 have hl := r.length
 have hn := line63
 have I' : Inv X pins σ (upd H p (.lst (xs.set j v))) { s with heap := s.heap.update p (Obj.mapSeq (·.setIfInBounds j u)) } :=
  I.lstUpd hp ho (mapSeq_set its n j u) (r.set rv j) (by rw [List.length_set]; exact hz) s.toks
 by_cases h0 : 0 <= k
 ·have hk : k.toNat = j := by
   rw [seqIndex_of h0 h4] at h1
   exact Option.some.inj h1
  exact PySem.W.ki_setAt ho h0 (by (first | lia | omega)) (by rw [List.size_toArray, <- hl]; exact h4) (by rw [hk]; exact ⟨_, I', q⟩)
 ·have hk : (k + (its.toArray.size : Int)).toNat = j := by
   rw [seqIndex_neg (by (first | lia | omega)) h3] at h1
   rw [List.size_toArray, <- hl]
   exact Option.some.inj h1
  exact PySem.W.ki_setBack ho (by (first | lia | omega)) (by rw [List.size_toArray, <- hl]; exact h3) (by (first | lia | omega)) (by rw [hk]; exact ⟨_, I', q⟩)
theorem slice_bounds (lo hi : Option Int) (n : Nat) : (sliceBounds lo hi none n).1 = ((HT.sIx n 0 lo : Nat) : Int) /\ (sliceBounds lo hi none n).2.1 = ((HT.sIx n n hi : Nat) : Int) /\ (sliceBounds lo hi none n).2.2 = 1 := by
 refine ⟨?_, ?_, rfl⟩
 ·cases lo with
  | none => simp [sliceBounds, HT.sIx]
  | some i =>
   simp only [sliceBounds, HT.sIx, Option.getD_none, show (1 : Int) > 0 by decide, if_true]
   by_cases h : i < 0
   ·simp only [h, if_true] <;> (first | lia | omega)
   ·simp only [h, if_false] <;> (first | lia | omega)
 ·cases hi with
  | none => simp [sliceBounds, HT.sIx]
  | some i =>
   simp only [sliceBounds, HT.sIx, Option.getD_none, show (1 : Int) > 0 by decide, if_true]
   by_cases h : i < 0
   ·simp only [h, if_true] <;> (first | lia | omega)
   ·simp only [h, if_false] <;> (first | lia | omega)
theorem slicePick_cut (its : List Value) (lo hi : Option Int) : slicePick its.toArray lo hi none = ((its.drop (HT.sIx its.length 0 lo)).take (HT.sIx its.length its.length hi - HT.sIx its.length 0 lo)).toArray := by
 obtain ⟨h1, h2, h3⟩ := slice_bounds lo hi its.toArray.size
 unfold slicePick
 rw [h1, h2, h3]
 simp only [sliceRange_one, pick_run, List.size_toArray] <;> rfl
noncomputable def rSlL (K : W.Frag) : V -> Option Int -> Option Int -> Hp -> VK -> Prop := fun x lo hi H Q => ∃ a xs, x = .ref a /\ SqL K H a xs /\ ∀ p, H p = none -> Q (.ref p) (upd H p (.lst (cutV xs lo hi)))
theorem sl_list : SlR X (rSlL X.K) := by
 intro pins s σ H x v vl vu lo hi sl Q I rx hs pl pu h
 refine gz9 fun _ bk0 => ?_
 obtain ⟨a, xs, rfl, hx, q⟩ := h
 refine bk0 ?_
 cases rx
 refine gz9 fun _ bk0 => ?_
 obtain ⟨its, r, ht, hz⟩ := I.list hx
 refine bk0 ?_
 have hlen := r.length
 refine ⟨"list", _, slot_list_getitem.lookup, ht.isList.typeIs, ?_⟩
 refine wpAny_getItem_list_slice ht.isList hs pl pu .none (by simp) ?_ (by rw [List.size_toArray] <;> (first | lia | omega))
 rw [slicePick_cut, <- hlen]
 refine ⟨.ref s.heap.objs.size, _, I.laid (t' := s.toks) (o := .lst (cutV xs lo hi)) (fun b ob q => Heap.get?_push_of_some _ q) (Nat.le_refl _) ?_, rfl, q _ (I.hok.fresh (Nat.le_refl _))⟩
 exact ⟨Nat.le_trans (cutV_length xs lo hi) hz, _, 0, (r.drop (HT.sIx xs.length 0 lo)).take (HT.sIx xs.length xs.length hi - HT.sIx xs.length 0 lo), Heap.get?_push_size _ rfl⟩
noncomputable def flatV : V -> Bool
 | .non => true
 | .bl _ => true
 | .int _ => true
 | .str _ => true
 | _ => false
noncomputable def eqV : V -> V -> Bool
 | .non, .non => true
 | .bl a, .bl b => a == b
 | .bl a, .int b => (if a then 1 else 0) == b
 | .int a, .bl b => a == (if b then 1 else 0)
 | .int a, .int b => a == b
 | .str a, .str b => a == b
 | _, _ => false
theorem eqAt_V {A : Around} {s : Shared} {y x : V} {u v : Value} (ry : RelV y u) (rx : RelV x v) (fy : flatV y = true) (fx : flatV x = true) : SeqAt.EqAt A s u v (eqV y x) := by
 cases y with
 | non =>
  cases ry
  cases x with
  | non => cases rx; exact SeqAt.EqAt.same _
  | bl b => cases rx; exact SeqAt.EqAt.none_bool b
  | int b => obtain ⟨t, rfl⟩ := rx; exact SeqAt.EqAt.none_int b t
  | str b => obtain ⟨t, rfl⟩ := rx; exact SeqAt.EqAt.none_str b t
  | _ => exact absurd (show false = true from fx) Bool.false_ne_true
 | bl a =>
  cases ry
  cases x with
  | non => cases rx; exact SeqAt.EqAt.bool_none a
  | bl b => cases rx; exact SeqAt.EqAt.bool_bool a b
  | int b => obtain ⟨t, rfl⟩ := rx; exact SeqAt.EqAt.bool_int a b t
  | str b => obtain ⟨t, rfl⟩ := rx; exact SeqAt.EqAt.bool_str a b t
  | _ => exact absurd (show false = true from fx) Bool.false_ne_true
 | int a =>
  obtain ⟨t', rfl⟩ := ry
  cases x with
  | non => cases rx; exact SeqAt.EqAt.int_none a t'
  | bl b => cases rx; exact SeqAt.EqAt.int_bool a t' b
  | int b => obtain ⟨t, rfl⟩ := rx; exact SeqAt.EqAt.int_int a t' b t
  | str b => obtain ⟨t, rfl⟩ := rx; exact SeqAt.EqAt.int_str a t' b t
  | _ => exact absurd (show false = true from fx) Bool.false_ne_true
 | str a =>
  obtain ⟨t', rfl⟩ := ry
  cases x with
  | non => cases rx; exact SeqAt.EqAt.str_none a t'
  | bl b => cases rx; exact SeqAt.EqAt.str_bool a t' b
  | int b => obtain ⟨t, rfl⟩ := rx; exact SeqAt.EqAt.str_int a t' b t
  | str b => obtain ⟨t, rfl⟩ := rx; exact SeqAt.EqAt.str_str a t' b t
  | _ => exact absurd (show false = true from fx) Bool.false_ne_true
 | _ => exact absurd (show false = true from fy) Bool.false_ne_true
noncomputable def eqU (x : V) (u : Value) : Bool := match u with
 | .none => eqV .non x
 | .bool b => eqV (.bl b) x
 | .int i _ => eqV (.int i) x
 | .str z _ => eqV (.str z) x
 | _ => false
theorem eqU_of {x y : V} {u : Value} (r : RelV y u) (f : flatV y = true) : eqU x u = eqV y x := by
 cases y with
 | non => cases r; rfl
 | bl b => cases r; rfl
 | int i => obtain ⟨t, rfl⟩ := r; rfl
 | str z => obtain ⟨t, rfl⟩ := r; rfl
 | _ => exact absurd (show false = true from f) Bool.false_ne_true
theorem any_eqU {x : V} : ∀ {xs : List V} {us : List Value}, Vals xs us -> xs.all flatV = true -> us.any (eqU x) = xs.any fun y => eqV y x
 | _, _, .nil, _ => rfl
 | y :: xs, u :: us, .cons r t, f => by
  rw [List.all_cons, Bool.and_eq_true] at f
  rw [List.any_cons, List.any_cons, eqU_of r f.1, any_eqU t f.2]
theorem mem_eqAt {A : Around} {s : Shared} {x : V} {v : Value} (rx : RelV x v) (fx : flatV x = true) : ∀ {xs : List V} {us : List Value}, Vals xs us -> xs.all flatV = true -> ∀ u ∈ us, SeqAt.EqAt A s u v (eqU x u)
 | _, _, .nil, _ => fun u hu => by cases hu
 | y :: xs, u :: us, .cons r t, f => fun u' hu => by
  rw [List.all_cons, Bool.and_eq_true] at f
  rcases List.mem_cons.mp hu with rfl | hu
  ·rw [eqU_of r f.1]; exact eqAt_V r rx f.1 fx
  ·exact mem_eqAt rx fx t f.2 u' hu
noncomputable def inV (x : V) (xs : List V) : Bool := xs.any fun y => eqV y x
noncomputable def rIn (K : W.Frag) (neg : Bool) : R2 := fun x y H Q => ∃ p xs, y = .ref p /\ (SqL K H p xs \/ SqT K H p xs) /\ flatV x = true /\ xs.all flatV = true /\ Q (.bl (if neg then !inV x xs else inV x xs)) H
theorem op_in_seq : OpR X (compareOp .In) (rIn X.K false) := by
 intro pins s σ H x y v u Q I rx ry h
 refine gz9 fun _ bk0 => ?_
 obtain ⟨p, xs, rfl, hq, fx, fs, q⟩ := h
 refine bk0 ?_
 cases ry
 rcases hq with hq | hq
 ·obtain ⟨its, r, pl, hz⟩ := I.list hq
  refine SeqAt.in_listAt (eqU x) pl.isList (fun w hw => mem_eqAt rx fx r fs w (by simpa using hw)) ⟨.bl _, H, I, rfl, ?_⟩
  rw [show its.toArray.any (eqU x) = its.any (eqU x) by simp, any_eqU r fs]
  exact q
 ·obtain ⟨its, r, pl, hz⟩ := I.tuple hq
  refine SeqAt.in_tupleAt (eqU x) pl (fun w hw => mem_eqAt rx fx r fs w (by simpa using hw)) ⟨.bl _, H, I, rfl, ?_⟩
  rw [show its.toArray.any (eqU x) = its.any (eqU x) by simp, any_eqU r fs]
  exact q
theorem op_notIn_seq : OpR X (compareOp .NotIn) (rIn X.K true) := by
 intro pins s σ H x y v u Q I rx ry h
 refine gz9 fun _ bk0 => ?_
 obtain ⟨p, xs, rfl, hq, fx, fs, q⟩ := h
 refine bk0 ?_
 cases ry
 rcases hq with hq | hq
 ·obtain ⟨its, r, pl, hz⟩ := I.list hq
  refine SeqAt.notIn_listAt (eqU x) pl.isList (fun w hw => mem_eqAt rx fx r fs w (by simpa using hw)) ⟨.bl _, H, I, rfl, ?_⟩
  rw [show its.toArray.any (eqU x) = its.any (eqU x) by simp, any_eqU r fs]
  exact q
 ·obtain ⟨its, r, pl, hz⟩ := I.tuple hq
  refine SeqAt.notIn_tupleAt (eqU x) pl (fun w hw => mem_eqAt rx fx r fs w (by simpa using hw)) ⟨.bl _, H, I, rfl, ?_⟩
  rw [show its.toArray.any (eqU x) = its.any (eqU x) by simp, any_eqU r fs]
  exact q
theorem call_len_seq : CallR X (.builtin "len") (fun xs H Q => ∃ p ys, xs = [.ref p] /\ (SqL X.K H p ys \/ SqT X.K H p ys) /\ Q (.int ys.length) H) := by
 intro pins s σ H xs us Q I r h
 refine gz9 fun _ bk0 => ?_
 obtain ⟨p, ys, rfl, hq, q⟩ := h
 obtain ⟨u, rfl, rx⟩ := vals1 r
 refine bk0 ?_
 cases rx
 have hn := line63
 rcases hq with hq | hq
 ·obtain ⟨its, r', pl, hz⟩ := I.list hq
  have hlen := r'.length
  exact Calls.call_len_list pl.isList (by simp only [List.size_toArray] <;> (first | lia | omega)) ⟨.int ys.length, H, I.tok _, ⟨s.toks + 1, by rw [List.size_toArray, hlen]⟩, q⟩
 ·obtain ⟨its, r', pl, hz⟩ := I.tuple hq
  have hlen := r'.length
  exact len_tuple pl (by simp only [List.size_toArray] <;> (first | lia | omega)) ⟨.int ys.length, H, I.tok _, ⟨s.toks + 1, by rw [List.size_toArray, hlen]⟩, q⟩
theorem call_list_of : CallR X (.type "list") (fun xs H Q => ∃ p ys, xs = [.ref p] /\ (SqL X.K H p ys \/ SqT X.K H p ys) /\ ∀ l, H l = none -> Q (.ref l) (upd H l (.lst ys))) := by
 intro pins s σ H xs us Q I r h
 refine gz9 fun _ bk0 => ?_
 obtain ⟨p, ys, rfl, hq, q⟩ := h
 obtain ⟨u, rfl, rx⟩ := vals1 r
 refine bk0 ?_
 cases rx
 have fin : ∀ (its : List Value), Vals ys its -> ys.length <= sizeLine -> ∀ (h' : Heap) (c' : Nat), (∀ b o', s.heap.get? b = some o' -> h'.get? b = some o') →
   h'.get? s.heap.objs.size = some { cls := .type "list", dict := none, data := .seq its.toArray c', slots := #[] } -> EP X pins σ Q (.ref s.heap.objs.size) { s with heap := h' } := fun its r' hz h' c' kp e =>
  ⟨.ref s.heap.objs.size, _, I.laid (t' := s.toks) kp (Nat.le_refl _) (show ObjOk X.prog X.w _ h' _ (.lst ys) from ⟨hz, its, c', r', e⟩), rfl, q _ (I.hok.fresh (Nat.le_refl _))⟩
 rcases hq with hq | hq
 ·obtain ⟨its, r', pl, hz⟩ := I.list hq
  have hlen := r'.length
  refine gz9 fun _ bk0 => ?_
  obtain ⟨o, ho, hc, n, hd⟩ := pl.isList
  refine bk0 ?_
  exact call_list_seq p (.inl rfl) ho hc hd (fun h' c' kp e => fin its r' hz h' c' kp e) (by simp only [List.size_toArray] <;> (first | lia | omega))
 ·obtain ⟨its, r', pl, hz⟩ := I.tuple hq
  have hlen := r'.length
  refine gz9 fun _ bk0 => ?_
  obtain ⟨o, ho, hc, n, hd⟩ := pl
  refine bk0 ?_
  exact call_list_seq p (.inr rfl) ho hc hd (fun h' c' kp e => fin its r' hz h' c' kp e) (by simp only [List.size_toArray] <;> (first | lia | omega))
noncomputable def tyV (K : W.Frag) (T : String) (x : V) (H : Hp) : Prop := match x with
 | .str _ => T = "str"
 | .int _ => T = "int"
 | .ref p => (T = "list" /\ ∃ xs, SqL K H p xs) \/ (T = "tuple" /\ ∃ o, K.lookup p = some o /\ o.cls = .type "tuple" /\ o.dict = none) ∨
   (T = "dict" /\ ((∃ kvs, H p = some (.dK kvs)) \/ ∃ kvs, H p = some (.dT kvs))) \/ (T = "set" /\ ∃ S n, H p = some (.set S n))
 | _ => False
theorem tyV_is {pins : List (Addr × Obj)} {σ : St} {H : Hp} {s : Shared} {T : String} {x : V} {v : Value} (I : Inv X pins σ H s) (r : RelV x v) (ty : tyV X.K T x H) :
  s.TypeIs v T /\ ∀ a, v = .ref a -> ∃ ob, s.heap.get? a = some ob /\ ob.dict = none := by
 cases x with
 | str z =>
  obtain ⟨t, rfl⟩ := r
  cases (show T = "str" from ty)
  exact ⟨typeIs_str s z t, fun _ e => nomatch e⟩
 | int i =>
  obtain ⟨t, rfl⟩ := r
  cases (show T = "int" from ty)
  exact ⟨typeIs_int s i t, fun _ e => nomatch e⟩
 | ref p =>
  cases r
  rcases ty with ⟨rfl, xs, hq⟩ | ⟨rfl, o, hk, hc, hd⟩ | ⟨rfl, hk⟩ | ⟨rfl, S, n, hk⟩
  ·obtain ⟨its, _, pl, _⟩ := I.list hq
   refine ⟨pl.isList.typeIs, fun a e => ?_⟩
   cases e
   refine gz9 fun _ bk0 => ?_
   obtain ⟨o, n, e, c, hd, _⟩ := pl
   refine bk0 ?_
   exact ⟨o, e, hd⟩
  ·refine ⟨⟨o, I.kIn p o hk, hc⟩, fun a e => ?_⟩
   cases e
   exact ⟨o, I.kIn _ o hk, hd⟩
  ·have z : ∃ o, s.heap.get? p = some o /\ o.ExactDict := by
    rcases hk with ⟨kvs, hk⟩ | ⟨kvs, hk⟩
    ·obtain ⟨_, _, _, _, o, _, _, e, ex, _⟩ := I.hok p _ hk
     exact ⟨o, e, ex⟩
    ·obtain ⟨_, _, _, _, o, _, _, e, ex, _⟩ := I.hok p _ hk
     exact ⟨o, e, ex⟩
   obtain ⟨o, e, ex⟩ := z
   refine ⟨⟨o, e, ex.1⟩, fun a e2 => ?_⟩
   cases e2
   exact ⟨o, e, ex.2.1⟩
  ·obtain ⟨o, _, _, _, e, ex, _⟩ := I.hok p _ hk
   refine ⟨⟨o, e, ex.1⟩, fun a e2 => ?_⟩
   cases e2
   exact ⟨o, e, ex.2.1⟩
 | _ => exact False.elim ty
noncomputable def tBM0 (K : W.Frag) (T : String) (r : V -> List V -> Hp -> VK -> Prop) (to : TE) : TE := fun σ H Q => to σ H fun x H1 => tyV K T x H1 /\ r x [] H1 Q
noncomputable def tBM (K : W.Frag) (T : String) (r : V -> List V -> Hp -> VK -> Prop) (to : TE) (t : TA) : TE := fun σ H Q => to σ H fun x H1 => tyV K T x H1 /\ t σ H1 fun xs H2 => r x xs H2 Q
variable {o e : Expr} {es : List Expr} {to : TE} {t : TA} {name : Str} {apos cpos : Pos} {T id : String} {r : V -> List V -> Hp -> VK -> Prop}
theorem pe_bm (pa : PlainAttrs T) (slot : Slot T name id) (hty : typeOf (.builtin id) = pure (.type "method_descriptor")) (hm : MtR X id r) (ho : PE X o to) (ha : PA X (e :: es) t)
  (hbase : attributeBase o name X.env (eval o X.env) = eval o X.env := by rfl)
  (hfew : ((backTo cpos (starEach (e :: es) X.env)).all (fun x => !x.1) && (backToKw cpos (keywordEach [] X.env)).all (fun x => x.1.isSome)
   && decide ((e :: es).length + ([] : List Keyword).length + (if ([] : List Keyword).isEmpty then 0 else 1) < 30)) = true := by rfl)
  (hline : (apos.endLine == cpos.line) = true := by rfl) (hs : starEach (e :: es) X.env = (false, eval e X.env) :: starEach es X.env := by rfl) (hplain : (backTo cpos (starEach es X.env)).any (·.1) = false := by rfl) :
  PE X (.Call (.Attribute o name apos) (e :: es) [] cpos) (tBM X.K T r to t) := by
 intro pins s σ H Q I h
 refine wpAny_Call_method_late hbase hfew hline rfl (thn (ho pins s σ H _ I h) fun v s1 pk0 => ?_)
 refine gz9 fun _ bk0 => ?_
 obtain ⟨x, H1, I1, r1, ty, q1⟩ := pk0
 obtain ⟨h1, h2⟩ := tyV_is I1 r1 ty
 refine bk0 ?_
 refine ⟨T, id, pa, slot, hty, h1, h2, ?_⟩
 have hA := ha cpos pins s1 σ H1 _ I1 q1
 rw [hs] at hA ⊢
 refine Calls.callWith_builtin (by show (false || (backTo cpos (starEach es X.env)).any (·.1)) = false; rw [hplain] <;> rfl) (Calls.evalArgs_plain ?_)
 refine thn hA fun us s2 pk0 => ?_
 refine gz9 fun _ bk0 => ?_
 obtain ⟨vs, H2, I2, r2, q2⟩ := pk0
 refine bk0 ?_
 exact hm pins s2 σ H2 x vs v us Q I2 r1 r2 q2
/- xs.append(e), list.index on a module's tuple .. are MtR facts of 06m -/
end
end L2
namespace L2
open PySem PySem.Spec PyProof.Rows
noncomputable def MtM (X : Cx) (id : String) (r : V -> List V -> Hp -> VK -> Prop) : Prop :=
 ∀ (pins : List (Addr × Obj)) (s : Shared) (σ : St) (H : Hp) (x : V) (xs : List V) (v : Value) (us : List Value) (Q : VK), Inv X pins σ H s -> RelV x v -> Vals xs us -> r x xs H Q →
  wpAny (model X.prog X.w) X.A (call (.builtin id) (v :: us)) (EP X pins σ Q) X.xe s
theorem Vals.nilE {us : List Value} (h : Vals [] us) : us = [] := by
 cases us with
 | nil => rfl
 | cons u us => exact absurd h.length (by simp)
theorem Vals.hd {x : V} {xs : List V} {us : List Value} (h : Vals (x :: xs) us) : ∃ u vs, us = u :: vs /\ RelV x u /\ Vals xs vs := by
 have k : ∀ ys us, Vals ys us -> ys = x :: xs -> ∃ u vs, us = u :: vs /\ RelV x u /\ Vals xs vs := fun ys us h => by
  induction h with
  | nil => exact fun e => nomatch e
  | cons r t _ => exact fun e => by injection e with e1 e2; subst e1 e2; exact ⟨_, _, rfl, r, t⟩
 exact k _ _ h rfl
theorem Vals.one {x : V} {us : List Value} (h : Vals [x] us) : ∃ u, us = [u] /\ RelV x u := by
 refine gz9 fun _ bk0 => ?_
 obtain ⟨u, vs, e, r, t⟩ := Vals.hd h
 refine bk0 ?_
 exact ⟨u, by rw [e, Vals.nilE t], r⟩
theorem Vals.two {x y : V} {us : List Value} (h : Vals [x, y] us) : ∃ u v, us = [u, v] /\ RelV x u /\ RelV y v := by
 refine gz9 fun _ bk0 => ?_
 obtain ⟨u, vs, e, r, t⟩ := Vals.hd h
 obtain ⟨v, e', q⟩ := Vals.one t
 refine bk0 ?_
 exact ⟨u, v, by rw [e, e'], r, q⟩
section
variable {X : Cx} {pins : List (Addr × Obj)} {σ : St} {H : Hp} {s : Shared} {l b : Addr} {xs ys zs : List V}
theorem Inv.lset {its its' : List Value} {n : Nat} {f : Array Value -> Array Value} {t' : Nat} (I : Inv X pins σ H s) (hH : H l = some (.lst xs))
  (e : s.heap.get? l = some { cls := .type "list", data := .seq its.toArray n }) (hf : f its.toArray = its'.toArray) (hv : Vals ys its') (hz : ys.length <= sizeLine) :
  Inv X pins σ (upd H l (.lst ys)) { s with heap := s.heap.update l (Obj.mapSeq f), toks := t' } := by
 have q := PySem.IsL.update e f
 rw [hf] at q
 refine I.write (x := l) (e := l) (by rw [hH]; exact trivial) (.inl rfl) (fun b' u hb hu => (Heap.get?_update_other s.heap (Obj.mapSeq f) (Ne.symm hb)).trans hu) ⟨_, q⟩ ?_
 exact ⟨hz, its', _, hv, q⟩
theorem Inv.lnew {its : List Value} {t' : Nat} (I : Inv X pins σ H s) (hv : Vals ys its) (hz : ys.length <= sizeLine) :
  Inv X pins σ (upd H s.heap.objs.size (.lst ys)) { s with heap := s.heap.push { cls := .type "list", data := .seq its.toArray }, toks := t' } :=
 I.laid (fun _ _ q => Heap.get?_push_of_some _ q) (Nat.le_refl _) ⟨hz, its, 0, hv, Heap.get?_push_size _ rfl⟩
theorem Inv.fresh (I : Inv X pins σ H s) : H s.heap.objs.size = none := I.hok.fresh (Nat.le_refl _)
theorem Inv.lstM (I : Inv X pins σ H s) (hH : H l = some (.lst xs)) : xs.length <= sizeLine /\ ∃ (its : List Value) (n : Nat), Vals xs its /\ xs.length = its.length /\ s.heap.get? l = some { cls := .type "list", data := .seq its.toArray n } := by
 refine gz9 fun _ bk0 => ?_
 obtain ⟨z, its, n, r, e⟩ := I.hok l _ hH
 refine bk0 ?_
 exact ⟨z, its, n, r, r.length, e⟩
end
section
variable {X : Cx}
noncomputable def rAppend : V -> List V -> Hp -> VK -> Prop := fun x vs H Q => ∃ l xs y, x = .ref l /\ vs = [y] /\ H l = some (.lst xs) /\ xs.length < sizeLine /\ Q .non (upd H l (.lst (xs ++ [y])))
theorem mt_append : MtM X "list.append" rAppend := by
 intro pins s σ H x vs v us Q I rx rv h
 refine gz9 fun _ bk0 => ?_
 obtain ⟨l, xs, y, rfl, rfl, hH, hz, q⟩ := h
 refine bk0 ?_
 cases rx
 refine gz9 fun _ bk0 => ?_
 obtain ⟨u, rfl, ru⟩ := rv.one
 obtain ⟨z, its, n, r, hl, e⟩ := I.lstM hH
 refine bk0 ?_
 refine call_meets F.slot_list_append ⟨_, e, rfl⟩ F.entry_list_append (F.args_list_append_2 _ _) (PySem.list_append l its.toArray n u (by rw [List.size_toArray]; (first | lia | omega))) ⟨e, ?_⟩
 refine ⟨.non, _, I.lset (its' := its ++ [u]) hH e (by simp) (r.append (.cons ru .nil)) ?_, rfl, q⟩
 rw [List.length_append, List.length_singleton]
 (first | lia | omega)
noncomputable def rExtend : V -> List V -> Hp -> VK -> Prop := fun x vs H Q => ∃ l b xs zs, x = .ref l /\ vs = [.ref b] /\ H l = some (.lst xs) /\ H b = some (.lst zs) /\ xs.length + zs.length <= sizeLine /\ Q .non (upd H l (.lst (xs ++ zs)))
noncomputable def rPop : V -> List V -> Hp -> VK -> Prop := fun x vs H Q => ∃ l xs y, x = .ref l /\ vs = [] /\ H l = some (.lst xs) /\ xs[xs.length - 1]? = some y /\ Q y (upd H l (.lst xs.dropLast))
noncomputable def rPopAt : V -> List V -> Hp -> VK -> Prop := fun x vs H Q => ∃ l xs i k y, x = .ref l /\ vs = [.int i] /\ H l = some (.lst xs) /\ -(2 ^ 63) <= i /\ i < 2 ^ 63 /\ seqIndex? i xs.length = some k /\ xs[k]? = some y /\ Q y (upd H l (.lst (xs.eraseIdx k)))
noncomputable def rReverse : V -> List V -> Hp -> VK -> Prop := fun x vs H Q => ∃ l xs, x = .ref l /\ vs = [] /\ H l = some (.lst xs) /\ Q .non (upd H l (.lst xs.reverse))
noncomputable def rClear : V -> List V -> Hp -> VK -> Prop := fun x vs H Q => ∃ l xs, x = .ref l /\ vs = [] /\ H l = some (.lst xs) /\ Q .non (upd H l (.lst []))
noncomputable def rCat : R2 := fun x y H Q => ∃ l b xs zs, x = .ref l /\ y = .ref b /\ H l = some (.lst xs) /\ H b = some (.lst zs) /\ xs.length + zs.length <= sizeLine /\ ∀ p, H p = none -> Q (.ref p) (upd H p (.lst (xs ++ zs)))
theorem op_cat : OpR X (binaryOp .Add) rCat := by
 intro pins s σ H x y v u Q I rx ry h
 refine gz9 fun _ bk0 => ?_
 obtain ⟨l, b, xs, zs, rfl, rfl, hH, hB, hz, q⟩ := h
 refine bk0 ?_
 cases rx
 cases ry
 refine gz9 fun _ bk0 => ?_
 obtain ⟨z, its, n, r, hl, e⟩ := I.lstM hH
 obtain ⟨z2, its2, n2, r2, hl2, e2⟩ := I.lstM hB
 refine bk0 ?_
 refine PySem.P.add_list e e2 ?_ (by rw [List.size_toArray, List.size_toArray]; (first | lia | omega))
 have ea : its.toArray ++ its2.toArray = (its ++ its2).toArray := by simp
 rw [ea]
 exact ⟨.ref _, _, I.lnew (t' := s.toks) (r.append r2) (by rw [List.length_append]; (first | lia | omega)), rfl, q _ I.fresh⟩
noncomputable def rRep : R2 := fun x y H Q => ∃ l k xs, x = .ref l /\ y = .int k /\ H l = some (.lst xs) /\ -(2 ^ 63) <= k /\ k < 2 ^ 63 /\ xs.length * k.toNat <= sizeLine ∧
 ∀ p, H p = none -> Q (.ref p) (upd H p (.lst (List.replicate k.toNat xs).flatten))
end
section
variable {prog : Program} {w : World} {A : Around} {E : Value -> Shared -> Prop} {s : Shared}
end
section
variable {X : Cx}
end
end L2
namespace L2
open PySem PySem.Spec PyProof.Rows
section
variable {κ : Type} [DecidableEq κ]
noncomputable def valV (kvs : List (κ × V)) (k : κ) : Option V := (kvs.find? fun kv => decide (kv.1 = k)).map (·.2)
noncomputable def putK (kvs : List (κ × V)) (k : κ) (v : V) : List (κ × V) :=
 if (kvs.any fun kv => decide (kv.1 = k)) = true then kvs.map (fun kv => if kv.1 = k then (kv.1, v) else kv) else kvs ++ [(k, v)]
noncomputable def dropK (kvs : List (κ × V)) (k : κ) : List (κ × V) := kvs.filter fun kv => decide (kv.1 ≠ k)
theorem valV_pos {p : κ × V} {r : List (κ × V)} {k : κ} (e : p.1 = k) : valV (p :: r) k = some p.2 := by simp [valV, List.find?_cons, e]
theorem valV_neg {p : κ × V} {r : List (κ × V)} {k : κ} (e : ¬ p.1 = k) : valV (p :: r) k = valV r k := by simp [valV, List.find?_cons, e]
theorem valV_any (k : κ) : ∀ kvs : List (κ × V), (kvs.any fun kv => decide (kv.1 = k)) = (valV kvs k).isSome
 | [] => rfl
 | p :: r => by
  rw [List.any_cons]
  by_cases e : p.1 = k
  ·simp only [valV_pos e, decide_eq_true e, Bool.true_or, Option.isSome_some]
  ·rw [valV_neg e, decide_eq_false e, Bool.false_or]; exact valV_any k r
theorem valV_map (k j : κ) (y : V) : ∀ kvs : List (κ × V), valV (kvs.map fun kv => if kv.1 = k then (kv.1, y) else kv) j = (valV kvs j).map fun x => if j = k then y else x
 | [] => rfl
 | p :: r => by
  have ih := valV_map k j y r
  rw [List.map_cons]
  by_cases h : p.1 = k
  ·rw [if_pos h]
   by_cases e : p.1 = j
   ·rw [valV_pos (p := (p.1, y)) e, valV_pos e, Option.map_some, if_pos (e.symm.trans h)]
   ·rw [valV_neg (p := (p.1, y)) e, valV_neg e, ih]
  ·rw [if_neg h]
   by_cases e : p.1 = j
   ·rw [valV_pos (p := p) e, valV_pos e, Option.map_some, if_neg (fun z => h (e.trans z))]
   ·rw [valV_neg (p := p) e, valV_neg e, ih]
theorem valV_snoc (k j : κ) (y : V) : ∀ kvs : List (κ × V), valV kvs k = none -> valV (kvs ++ [(k, y)]) j = if j = k then some y else valV kvs j
 | [], _ => by
  by_cases e : k = j
  ·rw [if_pos e.symm]; exact valV_pos (p := (k, y)) e
  ·rw [if_neg (fun z => e z.symm)]; exact valV_neg (p := (k, y)) e
 | p :: r, hn => by
  rw [List.cons_append]
  have hk : ¬ p.1 = k := fun z => by rw [valV_pos z] at hn; cases hn
  rw [valV_neg hk] at hn
  have ih := valV_snoc k j y r hn
  by_cases e : p.1 = j
  ·rw [valV_pos e, valV_pos e, if_neg (fun z => hk (e.trans z))]
  ·rw [valV_neg e, valV_neg e, ih]
theorem valV_put (kvs : List (κ × V)) (k j : κ) (y : V) : valV (putK kvs k y) j = if j = k then some y else valV kvs j := by
 unfold putK
 by_cases a : (kvs.any fun kv => decide (kv.1 = k)) = true
 ·rw [if_pos a, valV_map]
  rw [valV_any] at a
  by_cases e : j = k
  ·obtain ⟨x, hx⟩ := Option.isSome_iff_exists.mp a
   rw [if_pos e, e, hx, Option.map_some, if_pos rfl]
  ·rw [if_neg e]
   cases valV kvs j with
   | none => rfl
   | some x => rw [Option.map_some, if_neg e]
 ·rw [if_neg a]
  refine valV_snoc k j y kvs ?_
  rw [valV_any] at a
  cases q : valV kvs k with
  | none => rfl
  | some x => rw [q] at a; exact (a rfl).elim
theorem length_putK (kvs : List (κ × V)) (k : κ) (v : V) : (putK kvs k v).length <= kvs.length + 1 := by
 unfold putK
 split
 ·rw [List.length_map]; (first | lia | omega)
 ·rw [List.length_append, List.length_cons, List.length_nil]; (first | lia | omega)
theorem putK_new {kvs : List (κ × V)} {k : κ} (v : V) (h : valV kvs k = none) : putK kvs k v = kvs ++ [(k, v)] := by
 unfold putK
 rw [valV_any, h]
 exact if_neg (by decide)
theorem RelO.isSome_eq {o : Option V} {u : Option Value} (r : RelO o u) : o.isSome = u.isSome := by
 cases o with
 | none => cases u with
  | none => rfl
  | some _ => exact (show False from r).elim
 | some _ => cases u with
  | none => exact (show False from r).elim
  | some _ => rfl
theorem RelO.getD {o : Option V} {u : Option Value} {d : V} {d' : Value} (r : RelO o u) (rd : RelV d d') : RelV (o.getD d) (u.getD d') := by
 cases o with
 | none => cases u with
  | none => exact rd
  | some _ => exact (show False from r).elim
 | some _ => cases u with
  | none => exact (show False from r).elim
  | some _ => exact r
theorem KV.val {kvs : List (κ × V)} {vs : List (κ × Value)} (r : KV kvs vs) (k : κ) : RelO (valV kvs k) (valueAt vs k) := by
 unfold KV at r
 induction r with
 | nil => exact True.intro
 | @cons p q ps qs h t ih =>
  obtain ⟨h1, h2⟩ := h
  by_cases e : p.1 = k
  ·have e' : q.1 = k := h1.symm.trans e
   have b : valueAt (q :: qs) k = some q.2 := by simp [valueAt, List.find?_cons, e']
   rw [valV_pos e, b]; exact h2
  ·have e' : ¬ q.1 = k := fun z => e (h1.trans z)
   have b : valueAt (q :: qs) k = valueAt qs k := by simp [valueAt, List.find?_cons, e']
   rw [valV_neg e, b]; exact ih
theorem KV.any {kvs : List (κ × V)} {vs : List (κ × Value)} (r : KV kvs vs) (k : κ) : (kvs.any fun kv => decide (kv.1 = k)) = vs.any fun kv => decide (kv.1 = k) := by
 unfold KV at r
 induction r with
 | nil => rfl
 | cons h t ih => rw [List.any_cons, List.any_cons, ih, h.1]
theorem KV.repl {kvs : List (κ × V)} {vs : List (κ × Value)} (r : KV kvs vs) (k : κ) {y : V} {u : Value} (ry : RelV y u) :
  KV (kvs.map fun kv => if kv.1 = k then (kv.1, y) else kv) (vs.map fun kv => if kv.1 = k then (kv.1, u) else kv) := by
 unfold KV at r ⊢
 induction r with
 | nil => exact .nil
 | @cons p q ps qs h t ih =>
  rw [List.map_cons, List.map_cons]
  refine .cons ?_ ih
  obtain ⟨h1, h2⟩ := h
  by_cases e : p.1 = k
  ·rw [if_pos e, if_pos (h1.symm.trans e)]; exact ⟨h1, ry⟩
  ·rw [if_neg e, if_neg (fun z => e (h1.trans z))]; exact ⟨h1, h2⟩
theorem KV.put {kvs : List (κ × V)} {vs : List (κ × Value)} (r : KV kvs vs) (k : κ) {y : V} {u : Value} (ry : RelV y u) : KV (putK kvs k y) (stored vs k u) := by
 unfold putK stored
 rw [r.any k]
 by_cases e : (vs.any fun kv => decide (kv.1 = k)) = true
 ·rw [if_pos e, if_pos e]; exact r.repl k ry
 ·rw [if_neg e, if_neg e]; exact Paired.snoc r ⟨rfl, ry⟩
theorem KV.length {kvs : List (κ × V)} {vs : List (κ × Value)} (r : KV kvs vs) : kvs.length = vs.length := Paired.length r
end
theorem kV_is {P : Program} {w : World} {k : Key} {u : Value} (r : RelV (kV k) u) : (mixKind P w).is k u = true := by
 cases k with
 | inl i => obtain ⟨t, e⟩ := (show ∃ t, u = Value.int i t from r); subst e; exact mixKind_int P w i t
 | inr x => obtain ⟨t, e⟩ := (show ∃ t, u = Value.str x t from r); subst e; exact mixKind_str P w x t
theorem kV_inj {a b : Key} (e : kV a = kV b) : a = b := by
 cases a with
 | inl i => cases b with
  | inl j => have e' : V.int i = V.int j := e; injection e' with e'; rw [e']
  | inr y => exact nomatch (show V.int i = V.str y from e)
 | inr x => cases b with
  | inl j => exact nomatch (show V.str x = V.int j from e)
  | inr y => have e' : V.str x = V.str y := e; injection e' with e'; rw [e']
theorem items_are {P : Program} {w : World} : ∀ {ks : List Key} {us : List Value}, Vals (ks.map kV) us -> ItemsAre (mixKind P w) ks us
 | [], _, r => by rw [List.map_nil] at r; cases r; exact .nil
 | k :: ks, _, r => by
  rw [List.map_cons] at r
  cases r with
  | cons h t => exact .cons (kV_is h) (items_are t)
noncomputable abbrev KT (H : Hp) : List (List Key × V) -> List (List Key × Addr × Value) -> Prop := Paired fun p q => p.1 = q.1 /\ H q.2.1 = some (.tup (p.1.map kV)) /\ RelV p.2 q.2.2
theorem KT.val {H : Hp} {kvs : List (List Key × V)} {xs : List (List Key × Addr × Value)} (r : KT H kvs xs) (k : List Key) : RelO (valV kvs k) ((atKey xs k).map (·.2)) := by
 induction r with
 | nil => exact True.intro
 | @cons p q ps qs h t ih =>
  obtain ⟨h1, _, h2⟩ := h
  by_cases e : p.1 = k
  ·have e' : q.1 = k := h1.symm.trans e
   have b : atKey (q :: qs) k = some q.2 := by simp [atKey, List.find?_cons, e']
   rw [valV_pos e, b]; exact h2
  ·have e' : ¬ q.1 = k := fun z => e (h1.trans z)
   have b : atKey (q :: qs) k = atKey qs k := by simp [atKey, List.find?_cons, e']
   rw [valV_neg e, b]; exact ih
theorem KT.repl {H : Hp} {kvs : List (List Key × V)} {xs : List (List Key × Addr × Value)} (r : KT H kvs xs) (k : List Key) {y : V} {u : Value} (ry : RelV y u) :
  KT H (kvs.map fun kv => if kv.1 = k then (kv.1, y) else kv) (xs.map (putAt k u)) := by
 induction r with
 | nil => exact .nil
 | @cons p q ps qs h t ih =>
  rw [List.map_cons, List.map_cons]
  refine .cons ?_ ih
  obtain ⟨h1, h2, h3⟩ := h
  unfold putAt
  by_cases e : p.1 = k
  ·rw [if_pos e, if_pos (h1.symm.trans e)]; exact ⟨h1, h2, ry⟩
  ·rw [if_neg e, if_neg (fun z => e (h1.trans z))]; exact ⟨h1, h2, h3⟩
theorem KT.put {H : Hp} {kvs : List (List Key × V)} {xs : List (List Key × Addr × Value)} (r : KT H kvs xs) (k : List Key) {b : Addr} {y : V} {u : Value} (hb : H b = some (.tup (k.map kV))) (ry : RelV y u) :
  KT H (putK kvs k y) (storedH xs k b u) := by
 have e : (kvs.any fun kv => decide (kv.1 = k)) = (atKey xs k).isSome := by
  rw [valV_any, (r.val k).isSome_eq, Option.isSome_map]
 unfold putK storedH
 rw [e]
 by_cases q : (atKey xs k).isSome = true
 ·rw [if_pos q, if_pos q]; exact r.repl k ry
 ·rw [if_neg q, if_neg q]; exact Paired.snoc r ⟨rfl, hb, ry⟩
theorem KT.keeps {H H' : Hp} {kvs : List (List Key × V)} {xs : List (List Key × Addr × Value)} (r : KT H kvs xs) (ht : ∀ b ys, H b = some (.tup ys) -> H' b = some (.tup ys)) : KT H' kvs xs :=
 Paired.mapP r fun _ _ z => ⟨z.1, ht _ _ z.2.1, z.2.2⟩
section
variable {P : Program} {w : World} {H : Hp} {h : Heap} {a : Addr}
theorem rd_of {u : HO} (ok : HOk P w H h) (e : Rd H a u) : ObjOk P w H h a u := e.ok ok
theorem dk_rd {kvs : List (Key × V)} (ok : HOk P w H h) (e : Rd H a (.dK kvs)) : kvs.length <= sizeLine /\ (a == sysModules) = false /\ ∃ vs, KV kvs vs /\ h.DictOf (mixKind P w) a vs :=
 show ObjOk P w H h a (.dK kvs) from rd_of ok e
theorem dk_of {kvs : List (Key × V)} (ok : HOk P w H h) (e : H a = some (.dK kvs)) : kvs.length <= sizeLine /\ (a == sysModules) = false /\ ∃ vs, KV kvs vs /\ h.DictOf (mixKind P w) a vs := dk_rd ok (.inl e)
theorem key_of {ks : List Key} (ok : HOk P w H h) (e : H a = some (.tup (ks.map kV))) : (tupleKind (mixKind P w)).is h ks a := by
 refine gz9 fun _ bk0 => ?_
 obtain ⟨_, its, r, o, h1, h2, n, h3⟩ := (show ObjOk P w H h a (.tup (ks.map kV)) from ok a _ e)
 refine bk0 ?_
 exact ⟨o, its.toArray, n, h1, h2, h3, by simpa using items_are r⟩
theorem dt_rd {kvs : List (List Key × V)} (ok : HOk P w H h) (e : Rd H a (.dT kvs)) : kvs.length <= sizeLine /\ (a == sysModules) = false ∧
  ∃ xs, KT H kvs xs /\ h.DictOfH (tupleKind (mixKind P w)) a xs := by
 refine gz9 fun _ bk0 => ?_
 obtain ⟨z, y, xs, r, o, es, ep, h1, h2, h3, h4, h5⟩ := (show ObjOk P w H h a (.dT kvs) from rd_of ok e)
 refine bk0 ?_
 refine ⟨z, y, xs, r, o, es, ep, h1, h2, h3, h4, fun x hx => ?_, h5⟩
 have all : ∀ {l : List (List Key × V)} {m : List (List Key × Addr × Value)}, KT H l m -> ∀ x ∈ m, (tupleKind (mixKind P w)).is h x.1 x.2.1 := by
  intro l m q
  induction q with
  | nil => intro x hx; exact nomatch hx
  | @cons p q ps qs hq t ih =>
   intro x hx
   rcases List.mem_cons.mp hx with e | hx
   ·subst e
    exact key_of ok (by rw [<- hq.1]; exact hq.2.1)
   ·exact ih x hx
 exact all r x hx
theorem dt_of {kvs : List (List Key × V)} (ok : HOk P w H h) (e : H a = some (.dT kvs)) : kvs.length <= sizeLine /\ (a == sysModules) = false ∧
  ∃ xs, KT H kvs xs /\ h.DictOfH (tupleKind (mixKind P w)) a xs := dt_rd ok (.inl e)
end
noncomputable def DGet (H : Hp) (a : Addr) (y : V) (r : Option V) : Prop :=
 (∃ kvs k, Rd H a (.dK kvs) /\ y = kV k /\ r = valV kvs k) \/ ∃ kvs k b, Rd H a (.dT kvs) /\ y = .ref b /\ H b = some (.tup (k.map kV)) /\ r = valV kvs k
noncomputable def DPut (H : Hp) (a : Addr) (y v : V) (H' : Hp) : Prop :=
 (∃ kvs k, H a = some (.dK kvs) /\ y = kV k /\ kvs.length < sizeLine /\ H' = upd H a (.dK (putK kvs k v))) ∨
 ∃ kvs k b, H a = some (.dT kvs) /\ y = .ref b /\ H b = some (.tup (k.map kV)) /\ kvs.length < sizeLine /\ H' = upd H a (.dT (putK kvs k v))
theorem DGet.k {H : Hp} {a : Addr} {kvs : List (Key × V)} {k : Key} (e : H a = some (.dK kvs)) : DGet H a (kV k) (valV kvs k) := .inl ⟨kvs, k, .inl e, rfl, rfl⟩
theorem DGet.t {H : Hp} {a b : Addr} {kvs : List (List Key × V)} {k : List Key} (e : H a = some (.dT kvs)) (eb : H b = some (.tup (k.map kV))) : DGet H a (.ref b) (valV kvs k) := .inr ⟨kvs, k, b, .inl e, rfl, eb, rfl⟩
theorem DPut.k {H : Hp} {a : Addr} {kvs : List (Key × V)} {k : Key} {v : V} (e : H a = some (.dK kvs)) (hl : kvs.length < sizeLine) : DPut H a (kV k) v (upd H a (.dK (putK kvs k v))) := .inl ⟨kvs, k, e, rfl, hl, rfl⟩
theorem DPut.t {H : Hp} {a b : Addr} {kvs : List (List Key × V)} {k : List Key} {v : V} (e : H a = some (.dT kvs)) (eb : H b = some (.tup (k.map kV))) (hl : kvs.length < sizeLine) :
  DPut H a (.ref b) v (upd H a (.dT (putK kvs k v))) := .inr ⟨kvs, k, b, e, rfl, eb, hl, rfl⟩
section
variable {X : Cx} {pins : List (Addr × Obj)} {σ : St} {H : Hp} {s : Shared} {a : Addr} {y v : V} {u r : Value} {o : Option V} {A : Around} {E : Value -> Shared -> Prop}
theorem Inv.big (I : Inv X pins σ H s) : sysModules < s.heap.objs.size := by
 have h : mainGlobals < s.heap.objs.size := (I.mod.glob.keeps I.bk).lt
 exact Nat.lt_trans (by decide) h
theorem d_getItem {Q : Value -> Shared -> Prop} (hu : A.units + 1 < cLine) (I : Inv X pins σ H s) (g : DGet H a y (some v)) (ry : RelV y u) (h : ∀ w' s', Inv X pins σ H s' -> RelV v w' -> Q w' s') :
  wpAny (model X.prog X.w) A (getItem (.ref a) u) Q E s := by
 rcases g with ⟨kvs, k, e, ey, l⟩ | ⟨kvs, k, b, e, ey, eb, l⟩
 ·subst ey
  refine gz9 fun _ bk0 => ?_
  obtain ⟨z, hd, vs, rel, dd⟩ := dk_rd I.hok e
  obtain ⟨w', hw, rw'⟩ := RelO.some_of (v := v) (o := valueAt vs k) (by rw [l]; exact rel.val k)
  refine bk0 ?_
  exact wpAny_getItem_of (kV_is ry) dd.mapOf hw (h w' _ (I.tok _) rw')
 ·subst ey
  cases (show u = Value.ref b from ry)
  refine gz9 fun _ bk0 => ?_
  obtain ⟨z, hd, xs, rel, dd⟩ := dt_rd I.hok e
  obtain ⟨w', hw, rw'⟩ := RelO.some_of (v := v) (o := (atKey xs k).map (·.2)) (by rw [l]; exact rel.val k)
  obtain ⟨p, hp, hp2⟩ := Option.map_eq_some_iff.mp hw
  refine bk0 ?_
  refine wpAny_getItem_heap (tupleKind_room_in1 hu) (key_of I.hok eb) dd hp ?_
  rw [hp2]
  exact h w' _ (I.tok _) rw'
theorem d_in {Q : Value -> Shared -> Prop} (hu : A.units + 1 < cLine) (I : Inv X pins σ H s) (g : DGet H a y o) (ry : RelV y u) (h : ∀ s', Inv X pins σ H s' -> Q (.bool o.isSome) s') :
  wpAny (model X.prog X.w) A (compareOp .In u (.ref a)) Q E s := by
 rcases g with ⟨kvs, k, e, ey, l⟩ | ⟨kvs, k, b, e, ey, eb, l⟩
 ·subst ey
  refine gz9 fun _ bk0 => ?_
  obtain ⟨z, hd, vs, rel, dd⟩ := dk_rd I.hok e
  refine bk0 ?_
  refine wpAny_in_of (kV_is ry) hd dd.mapOf ?_
  rw [<- (rel.val k).isSome_eq, <- l]
  exact h _ (I.tok _)
 ·subst ey
  cases (show u = Value.ref b from ry)
  refine gz9 fun _ bk0 => ?_
  obtain ⟨z, hd, xs, rel, dd⟩ := dt_rd I.hok e
  refine bk0 ?_
  refine wpAny_in_heap (tupleKind_room_in1 hu) (key_of I.hok eb) hd dd ?_
  have q := (rel.val k).isSome_eq
  rw [Option.isSome_map] at q
  rw [<- q, <- l]
  exact h _ (I.tok _)
theorem d_notIn {Q : Value -> Shared -> Prop} (hu : A.units + 1 < cLine) (I : Inv X pins σ H s) (g : DGet H a y o) (ry : RelV y u) (h : ∀ s', Inv X pins σ H s' -> Q (.bool (!o.isSome)) s') :
  wpAny (model X.prog X.w) A (compareOp .NotIn u (.ref a)) Q E s := by
 rcases g with ⟨kvs, k, e, ey, l⟩ | ⟨kvs, k, b, e, ey, eb, l⟩
 ·subst ey
  refine gz9 fun _ bk0 => ?_
  obtain ⟨z, hd, vs, rel, dd⟩ := dk_rd I.hok e
  refine bk0 ?_
  refine wpAny_notIn_of (kV_is ry) hd dd.mapOf ?_
  rw [<- (rel.val k).isSome_eq, <- l]
  exact h _ (I.tok _)
 ·subst ey
  cases (show u = Value.ref b from ry)
  refine gz9 fun _ bk0 => ?_
  obtain ⟨z, hd, xs, rel, dd⟩ := dt_rd I.hok e
  refine bk0 ?_
  refine wpAny_notIn_heap (tupleKind_room_in1 hu) (key_of I.hok eb) hd dd ?_
  have q := (rel.val k).isSome_eq
  rw [Option.isSome_map] at q
  rw [<- q, <- l]
  exact h _ (I.tok _)
theorem d_write {h' : Heap} {t' : Nat} {ob : HO} (I : Inv X pins σ H s) (mu : Mut (H a)) (hs : Heap.SameBut a s.heap h') (he : ∃ q, h'.get? a = some q) (new : ObjOk X.prog X.w (upd H a ob) h' a ob) :
  Inv X pins σ (upd H a ob) { s with heap := h', toks := t' } :=
 I.write (x := a) (e := a) mu (.inl rfl) (fun b q hb z => (hs.2 b hb).trans z) he new
theorem dk_new {P : Program} {w : World} {H' : Hp} {h' : Heap} {kvs : List (Key × V)} {vs : List (Key × Value)} (z : kvs.length <= sizeLine) (hd : (a == sysModules) = false) (rel : KV kvs vs) (dd : h'.DictOf (mixKind P w) a vs) :
  ObjOk P w H' h' a (.dK kvs) := ⟨z, hd, vs, rel, dd⟩
theorem d_setItem {H' : Hp} {Q : Unit -> Shared -> Prop} (hu : A.units + 1 < cLine) (I : Inv X pins σ H s) (g : DPut H a y v H') (ry : RelV y u) (rv : RelV v r) (h : ∀ s', Inv X pins σ H' s' -> Q () s') :
  wpAny (model X.prog X.w) A (setItem (.ref a) u r) Q E s := by
 rcases g with ⟨kvs, k, e, ey, l, eH⟩ | ⟨kvs, k, b, e, ey, eb, l, eH⟩
 ·subst ey eH
  refine gz9 fun _ bk0 => ?_
  obtain ⟨z, hd, vs, rel, dd⟩ := dk_of I.hok e
  refine bk0 ?_
  have hz : vs.length <= sizeLine := by rw [<- rel.length]; exact z
  have hl : (putK kvs k v).length <= sizeLine := by have := length_putK kvs k v; (first | lia | omega)
  refine wpAny_setItem_pairs (hsz := hz) (kV_is ry) dd fun h' dd' hs => h _ ?_
  have he : ∃ q, h'.get? a = some q := let ⟨q, _, _, hq, _⟩ := dd'; ⟨q, hq⟩
  exact d_write I (by rw [e]; exact True.intro) hs he (dk_new hl hd (rel.put k rv) dd')
 ·subst ey eH
  cases (show u = Value.ref b from ry)
  refine gz9 fun _ bk0 => ?_
  obtain ⟨z, hd, xs, rel, dd⟩ := dt_of I.hok e
  refine bk0 ?_
  have hz : xs.length <= sizeLine := by rw [<- Paired.length rel]; exact z
  have hl : (putK kvs k v).length <= sizeLine := by have := length_putK kvs k v; (first | lia | omega)
  refine wpAny_setItem_heap (hsz := hz) (tupleKind_room_in1 hu) (key_of I.hok eb) dd fun h' dd' hs => h _ ?_
  refine gz9 fun _ bk0 => ?_
  obtain ⟨q, es, ep, hq, h2, h3, h4, _, h5⟩ := dd'
  refine bk0 ?_
  refine d_write I (by rw [e]; exact True.intro) hs ⟨q, hq⟩ ⟨hl, hd, _, (rel.put k eb rv).keeps fun c ys ec => ?_, q, es, ep, hq, h2, h3, h4, h5⟩
  rw [upd_ne (ne_of ec e (fun z => nomatch z))]
  exact ec
end
section
variable {X : Cx} {pins : List (Addr × Obj)} {σ : St} {H : Hp} {s : Shared} {a : Addr} {kvs : List (Key × V)} {k : Key} {u : Value} {A : Around} {E : Value -> Shared -> Prop}
end
noncomputable def NoSl (i : Expr) : Prop := ∀ ov iv, subscripted i false ov iv = operate [ov, iv] (getItem ov iv)
theorem subD_of {prog : Program} {w : World} {A : Around} {E : Value -> Shared -> Prop} {s : Shared} {env : Env} {value slice : Expr} {pos : Pos} {T id : String} {Q : Value -> Shared -> Prop}
  (hl : typeLookup (.type T) "__getitem__" = pure (some (.builtin id))) (hs : NoSl slice)
  (h : wpAny (model prog w) A (eval value env) (fun o s₁ => wpAny (model prog w) A (eval slice env) (fun i s₂ => s₂.TypeIs o T /\ wpAny (model prog w) A (getItem o i) Q E s₂) E s₁) E s) :
  wpAny (model prog w) A (eval (.Subscript value slice pos) env) Q E s := by
 refine Subscript_ (wpAny_mono h (fun o s₁ h₁ => wpAny_mono h₁ (fun i s₂ h₂ => ?_) fun _ _ x => x) fun _ _ x => x)
 obtain ⟨hT, h₂⟩ := h₂
 unfold subscriptTail
 refine wpAny_bind ?_
 rw [getitemInPython_of_ne hT.not_modules]
 refine wpAny_bind (wpAny_specialOf hT hl ?_)
 have fin : wpAny (model prog w) A (subscripted slice false o i) (fun r s₃ => wpAny (model prog w) A (letTemporaryGo value o r >>= fun _ => pure r) Q E s₃) E s₂ := by
  rw [hs o i]
  exact wpAny_operating (wpAny_mono h₂ (fun r s₃ h₃ => wpAny_bind (wpAny_letTemporaryGo (wpAny_pure h₃))) fun _ _ x => x)
 first
  | exact wpAny_pure (wpAny_bind fin)
  | exact wpAny_bind (wpAny_pure (wpAny_bind fin))
  | exact wpAny_bind fin
theorem dict_typeIs {X : Cx} {pins : List (Addr × Obj)} {σ : St} {H : Hp} {s : Shared} {a : Addr} {y : V} {o : Option V} (I : Inv X pins σ H s) (g : DGet H a y o) : s.TypeIs (.ref a) "dict" := by
 rcases g with ⟨kvs, k, e, _, _⟩ | ⟨kvs, k, b, e, _, _, _⟩
 ·obtain ⟨_, _, vs, _, dd⟩ := dk_rd I.hok e
  exact dd.typeIs
 ·obtain ⟨_, _, xs, _, dd⟩ := dt_rd I.hok e
  exact dd.typeIs
noncomputable def tDGet (td ty : TE) : TE := fun σ H Q => td σ H fun x H1 => ty σ H1 fun y H2 => ∃ a v, x = .ref a /\ DGet H2 a y (some v) /\ Q v H2
noncomputable def tDIn (ty td : TE) : TE := fun σ H Q => ty σ H fun y H1 => td σ H1 fun x H2 => ∃ a o, x = .ref a /\ DGet H2 a y o /\ Q (.bl o.isSome) H2
noncomputable def tDNotIn (ty td : TE) : TE := fun σ H Q => ty σ H fun y H1 => td σ H1 fun x H2 => ∃ a o, x = .ref a /\ DGet H2 a y o /\ Q (.bl (!o.isSome)) H2
noncomputable def sDPut (td ty tv : TE) : TS := fun D σ H => tv σ H fun v H1 => td σ H1 fun x H2 => ty σ H2 fun y H3 => ∃ a H4, x = .ref a /\ DPut H3 a y v H4 /\ D.nx σ H4
noncomputable def sDAug (td ty tv : TE) (rd : V -> V -> Hp -> VK -> Prop) : TS := fun D σ H => td σ H fun x H1 => ty σ H1 fun y H2 => ∃ a v, x = .ref a /\ DGet H2 a y (some v) ∧
 tv σ H2 fun y2 H3 => rd v y2 H3 fun z H4 => ∃ H5, DPut H4 a y z H5 /\ D.nx σ H5
noncomputable def sDDel (td ty : TE) : TS := fun D σ H => td σ H fun x H1 => ty σ H1 fun y H2 => ∃ a kvs k, x = .ref a /\ H2 a = some (.dK kvs) /\ y = kV k /\ (valV kvs k).isSome = true /\ D.nx σ (upd H2 a (.dK (dropK kvs k)))
section
variable {X : Cx} {o i e value : Expr} {pos pos' tpos : Pos} {td ty tv : TE}
theorem pe_dget (hu : X.A.units + 1 < cLine) (ho : PE X o td) (hi : PE X i ty) (hs : NoSl i) : PE X (.Subscript o i pos) (tDGet td ty) := by
 intro pins s σ H Q I h
 refine subD_of PySem.F.slot_dict_getitem.lookup hs (thn (ho pins s σ H _ I h) fun u s1 pk0 => ?_)
 refine gz9 fun _ bk0 => ?_
 obtain ⟨x, H1, I1, rx, q1⟩ := pk0
 refine bk0 ?_
 refine thn (hi pins s1 σ H1 _ I1 q1) fun iv s2 pk0 => ?_
 refine gz9 fun _ bk0 => ?_
 obtain ⟨y, H2, I2, ry, a, v, ex, g, q2⟩ := pk0
 refine bk0 ?_
 subst ex
 obtain rfl : u = Value.ref a := rx
 exact ⟨dict_typeIs I2 g, d_getItem hu I2 g ry fun w' s3 I3 rw' => ⟨v, H2, I3, rw', q2⟩⟩
theorem pc_din (hu : X.A.units + 1 < cLine) (hi : PE X i ty) (ho : PE X o td) : PC X .In i o (tDIn ty td) := by
 intro pins s σ H Q I h
 refine thn (hi pins s σ H _ I h) fun iv s1 pk0 => ?_
 refine gz9 fun _ bk0 => ?_
 obtain ⟨y, H1, I1, ry, q1⟩ := pk0
 refine bk0 ?_
 refine thn (ho pins s1 σ H1 _ I1 q1) fun u s2 pk0 => ?_
 refine gz9 fun _ bk0 => ?_
 obtain ⟨x, H2, I2, rx, a, ov, ex, g, q2⟩ := pk0
 refine bk0 ?_
 subst ex
 obtain rfl : u = Value.ref a := rx
 exact d_in hu I2 g ry fun s3 I3 => ⟨.bl ov.isSome, H2, I3, rfl, q2⟩
theorem pc_dnotin (hu : X.A.units + 1 < cLine) (hi : PE X i ty) (ho : PE X o td) : PC X .NotIn i o (tDNotIn ty td) := by
 intro pins s σ H Q I h
 refine thn (hi pins s σ H _ I h) fun iv s1 pk0 => ?_
 refine gz9 fun _ bk0 => ?_
 obtain ⟨y, H1, I1, ry, q1⟩ := pk0
 refine bk0 ?_
 refine thn (ho pins s1 σ H1 _ I1 q1) fun u s2 pk0 => ?_
 refine gz9 fun _ bk0 => ?_
 obtain ⟨x, H2, I2, rx, a, ov, ex, g, q2⟩ := pk0
 refine bk0 ?_
 subst ex
 obtain rfl : u = Value.ref a := rx
 exact d_notIn hu I2 g ry fun s3 I3 => ⟨.bl (!ov.isSome), H2, I3, rfl, q2⟩
theorem ps_dput (hu : X.A.units + 1 < cLine) (ho : PE X o td) (hi : PE X i ty) (hv : PE X value tv) (hs : swapsWith value (some (.Subscript o i pos')) pos.line X.env = pure false) :
  PS X (.Assign [.Subscript o i pos'] value pos) (sDPut td ty tv) := by
 intro pins s σ H D I h
 refine wpAny_Assign_Subscript (thn (hv pins s σ H _ I h) fun r s1 pk0 => ?_) hs
 refine gz9 fun _ bk0 => ?_
 obtain ⟨v, H1, I1, rv, q1⟩ := pk0
 refine bk0 ?_
 refine thn (ho pins s1 σ H1 _ I1 q1) fun u s2 pk0 => ?_
 refine gz9 fun _ bk0 => ?_
 obtain ⟨x, H2, I2, rx, q2⟩ := pk0
 refine bk0 ?_
 refine thn (hi pins s2 σ H2 _ I2 q2) fun iv s3 pk0 => ?_
 refine gz9 fun _ bk0 => ?_
 obtain ⟨y, H3, I3, ry, a, H4, ex, g, q3⟩ := pk0
 refine bk0 ?_
 subst ex
 obtain rfl : u = Value.ref a := rx
 exact d_setItem hu I3 g ry rv fun s4 I4 => ⟨σ, H4, I4, q3⟩
end
theorem dk_empty {P : Program} {w : World} {H : Hp} (h : Heap) (hb : sysModules < h.objs.size) : ObjOk P w H (h.push { cls := .type "dict", data := .dict #[] }) h.objs.size (.dK []) :=
 ⟨Nat.zero_le _, beq_eq_false_iff_ne.mpr (Ne.symm (Nat.ne_of_lt hb)), [], .nil, Heap.DictOf.new h⟩
theorem dt_empty {P : Program} {w : World} {H : Hp} (h : Heap) (hb : sysModules < h.objs.size) : ObjOk P w H (h.push { cls := .type "dict", data := .dict #[] }) h.objs.size (.dT []) :=
 ⟨Nat.zero_le _, beq_eq_false_iff_ne.mpr (Ne.symm (Nat.ne_of_lt hb)), [], .nil, _, #[], 0, Heap.get?_push_size _ rfl, ⟨rfl, rfl, rfl⟩, rfl, rfl, List.nodup_nil⟩
noncomputable def tDNewK : TE := fun _ H Q => ∀ p, H p = none -> Q (.ref p) (upd H p (.dK []))
noncomputable def tDNewT : TE := fun _ H Q => ∀ p, H p = none -> Q (.ref p) (upd H p (.dT []))
section
variable {X : Cx} {pos : Pos}
theorem pe_dnewK : PE X (.Dict [] [] pos) tDNewK := fun pins s σ H Q I h =>
 wpAny_Dict_empty ⟨.ref s.heap.objs.size, _, I.laid (a := s.heap.objs.size) (o := .dK []) (t' := s.toks) (fun _ _ q => Heap.get?_push_of_some _ q) (Nat.le_refl _) (dk_empty s.heap I.big), rfl, h _ (I.hok.fresh (Nat.le_refl _))⟩
theorem pe_dnewT : PE X (.Dict [] [] pos) tDNewT := fun pins s σ H Q I h =>
 wpAny_Dict_empty ⟨.ref s.heap.objs.size, _, I.laid (a := s.heap.objs.size) (o := .dT []) (t' := s.toks) (fun _ _ q => Heap.get?_push_of_some _ q) (Nat.le_refl _) (dt_empty s.heap I.big), rfl, h _ (I.hok.fresh (Nat.le_refl _))⟩
end
noncomputable def tPairs : List (TE × TE) -> St -> Hp -> (List (V × V) -> Hp -> Prop) -> Prop
 | [], _, H, Q => Q [] H
 | (tk, tv) :: r, σ, H, Q => tk σ H fun x H1 => tv σ H1 fun y H2 => tPairs r σ H2 fun ps H3 => Q ((x, y) :: ps) H3
noncomputable abbrev VV : List (V × V) -> List (Value × Value) -> Prop := Paired fun p q => RelV p.1 q.1 /\ RelV p.2 q.2
noncomputable def PPs (X : Cx) (pos : Pos) (keys : List (Option Expr)) (values : List Expr) (trs : List (TE × TE)) : Prop :=
 ∀ (pins : List (Addr × Obj)) (s : Shared) (σ : St) (H : Hp) (Q : List (V × V) -> Hp -> Prop), Inv X pins σ H s -> tPairs trs σ H Q →
  wpAny (model X.prog X.w) X.A (evalPairs (pairTrees keys values X.env pos)) (fun vs s' => ∃ ps H', Inv X pins σ H' s' /\ VV ps vs /\ Q ps H') X.xe s
noncomputable def mergeK (kvs more : List (Key × V)) : List (Key × V) := more.foldl (fun acc kv => putK acc kv.1 kv.2) kvs
noncomputable def tDisp (trs : List (TE × TE)) : TE := fun σ H Q => ∀ p, H p = none -> tPairs trs σ (upd H p (.dK [])) fun ps H2 => H2 p = some (.dK []) /\ ∃ kvs : List (Key × V), ps = kvs.map (fun kv => (kV kv.1, kv.2)) /\ kvs.length <= 15 /\ Q (.ref p) (upd H2 p (.dK (mergeK [] kvs)))
structure M1 (X : Cx) (o : Expr) (m : Str) (apos : Pos) (e : Expr) (cpos : Pos) : Prop where
 base : attributeBase o m X.env (eval o X.env) = eval o X.env
 few : ((backTo cpos (starEach [e] X.env)).all (fun x => !x.1) && (backToKw cpos (keywordEach [] X.env)).all (fun x => x.1.isSome)
  && decide (([e] : List Expr).length + ([] : List Keyword).length + (if ([] : List Keyword).isEmpty then 0 else 1) < 30)) = true
 line : (apos.endLine == cpos.line) = true
 trees : backTo cpos (starEach [e] X.env) = [(false, eval e X.env)]
structure M2 (X : Cx) (o : Expr) (m : Str) (apos : Pos) (e f : Expr) (cpos : Pos) : Prop where
 base : attributeBase o m X.env (eval o X.env) = eval o X.env
 few : ((backTo cpos (starEach [e, f] X.env)).all (fun x => !x.1) && (backToKw cpos (keywordEach [] X.env)).all (fun x => x.1.isSome)
  && decide (([e, f] : List Expr).length + ([] : List Keyword).length + (if ([] : List Keyword).isEmpty then 0 else 1) < 30)) = true
 line : (apos.endLine == cpos.line) = true
 trees : backTo cpos (starEach [e, f] X.env) = [(false, eval e X.env), (false, eval f X.env)]
noncomputable def IsD (H : Hp) (a : Addr) : Prop := (∃ kvs, Rd H a (.dK kvs)) \/ ∃ kvs, Rd H a (.dT kvs)
theorem isD_at {X : Cx} {pins : List (Addr × Obj)} {σ : St} {H : Hp} {s : Shared} {a : Addr} (I : Inv X pins σ H s) (d : IsD H a) :
  s.TypeIs (.ref a) "dict" /\ (∀ b, Value.ref a = .ref b -> ∃ ob, s.heap.get? b = some ob /\ ob.dict = none) /\ (a == sysModules) = false := by
 rcases d with ⟨kvs, e⟩ | ⟨kvs, e⟩
 ·obtain ⟨_, hd, vs, _, dd⟩ := dk_rd I.hok e
  refine ⟨dd.typeIs, fun b q => ?_, hd⟩
  cases q
  refine gz9 fun _ bk0 => ?_
  obtain ⟨ob, _, _, h1, h2, _⟩ := dd
  refine bk0 ?_
  exact ⟨ob, h1, h2.2.1⟩
 ·obtain ⟨_, hd, xs, _, dd⟩ := dt_rd I.hok e
  refine ⟨dd.typeIs, fun b q => ?_, hd⟩
  cases q
  refine gz9 fun _ bk0 => ?_
  obtain ⟨ob, _, _, h1, h2, _⟩ := dd
  refine bk0 ?_
  exact ⟨ob, h1, h2.2.1⟩
section
variable {X : Cx} {pins : List (Addr × Obj)} {σ : St} {H : Hp} {s : Shared} {a : Addr} {y d : V} {u r : Value} {o : Option V} {A : Around} {E : Value -> Shared -> Prop}
theorem d_get1 {Q : Value -> Shared -> Prop} (hu : A.units + 1 < cLine) (I : Inv X pins σ H s) (g : DGet H a y o) (ry : RelV y u) (h : ∀ w' s', Inv X pins σ H s' -> RelV (o.getD .non) w' -> Q w' s') :
  wpAny (model X.prog X.w) A (call (.builtin "dict.get") [.ref a, u]) Q E s := by
 rcases g with ⟨kvs, k, e, ey, l⟩ | ⟨kvs, k, b, e, ey, eb, l⟩
 ·subst ey
  refine gz9 fun _ bk0 => ?_
  obtain ⟨z, hd, vs, rel, dd⟩ := dk_rd I.hok e
  refine bk0 ?_
  refine call_meetsIn PySem.F.slot_dict_get dd.typeIs PySem.F.entry_dict_get (PySem.F.args_dict_get_2 _ _) (meets_dict_get (mixKind X.prog X.w) a (kV_is ry) hd) ⟨_, dd.mapOf, h _ _ (I.tok _) ?_⟩
  rw [l]
  exact (rel.val k).getD rfl
 ·subst ey
  cases (show u = Value.ref b from ry)
  refine gz9 fun _ bk0 => ?_
  obtain ⟨z, hd, xs, rel, dd⟩ := dt_rd I.hok e
  refine bk0 ?_
  refine call_meetsIn PySem.F.slot_dict_get dd.typeIs PySem.F.entry_dict_get (PySem.F.args_dict_get_2 _ _) (meetsH_dict_get (tupleKind (mixKind X.prog X.w)) a b hd) ⟨tupleKind_room_in1 hu, k, xs, key_of I.hok eb, dd, h _ _ (I.tok _) ?_⟩
  rw [l]
  exact (rel.val k).getD rfl
theorem d_get2 {Q : Value -> Shared -> Prop} (hu : A.units + 1 < cLine) (I : Inv X pins σ H s) (g : DGet H a y o) (ry : RelV y u) (rd : RelV d r) (h : ∀ w' s', Inv X pins σ H s' -> RelV (o.getD d) w' -> Q w' s') :
  wpAny (model X.prog X.w) A (call (.builtin "dict.get") [.ref a, u, r]) Q E s := by
 rcases g with ⟨kvs, k, e, ey, l⟩ | ⟨kvs, k, b, e, ey, eb, l⟩
 ·subst ey
  refine gz9 fun _ bk0 => ?_
  obtain ⟨z, hd, vs, rel, dd⟩ := dk_rd I.hok e
  refine bk0 ?_
  refine call_meetsIn PySem.F.slot_dict_get dd.typeIs PySem.F.entry_dict_get (PySem.F.args_dict_get_3 _ _ _) (meets_dict_get_default (mixKind X.prog X.w) a (kV_is ry) hd r) ⟨_, dd.mapOf, h _ _ (I.tok _) ?_⟩
  rw [l]
  exact (rel.val k).getD rd
 ·subst ey
  cases (show u = Value.ref b from ry)
  refine gz9 fun _ bk0 => ?_
  obtain ⟨z, hd, xs, rel, dd⟩ := dt_rd I.hok e
  refine bk0 ?_
  refine call_meetsIn PySem.F.slot_dict_get dd.typeIs PySem.F.entry_dict_get (PySem.F.args_dict_get_3 _ _ _) (meetsH_dict_get_default (tupleKind (mixKind X.prog X.w)) a b hd r) ⟨tupleKind_room_in1 hu, k, xs, key_of I.hok eb, dd, h _ _ (I.tok _) ?_⟩
  rw [l]
  exact (rel.val k).getD rd
end
noncomputable def tDGet1 (td ty : TE) : TE := fun σ H Q => td σ H fun x H1 => ∃ a, x = .ref a /\ IsD H1 a /\ ty σ H1 fun y H2 => ∃ o, DGet H2 a y o /\ Q (o.getD .non) H2
noncomputable def tDGet2 (td ty tx : TE) : TE := fun σ H Q => td σ H fun x H1 => ∃ a, x = .ref a /\ IsD H1 a /\ ty σ H1 fun y H2 => tx σ H2 fun z H3 => ∃ o, DGet H3 a y o /\ Q (o.getD z) H3
noncomputable def tDPop1 (td ty : TE) : TE := fun σ H Q => td σ H fun x H1 => ∃ a, x = .ref a /\ IsD H1 a /\ ty σ H1 fun y H2 => ∃ kvs k v, H2 a = some (.dK kvs) /\ y = kV k /\ valV kvs k = some v /\ Q v (upd H2 a (.dK (dropK kvs k)))
noncomputable def tDPop2 (td ty tx : TE) : TE := fun σ H Q => td σ H fun x H1 => ∃ a, x = .ref a /\ IsD H1 a /\ ty σ H1 fun y H2 => tx σ H2 fun z H3 => ∃ kvs k, H3 a = some (.dK kvs) /\ y = kV k ∧
 (∀ v, valV kvs k = some v -> Q v (upd H3 a (.dK (dropK kvs k)))) /\ (valV kvs k = none -> Q z H3)
section
variable {X : Cx} {o e f : Expr} {apos cpos : Pos} {td ty tx : TE}
theorem pe_dget1 (hu : X.A.units + 1 < cLine) (ho : PE X o td) (he : PE X e ty) (m : M1 X o "get" apos e cpos) : PE X (.Call (.Attribute o "get" apos) [e] [] cpos) (tDGet1 td ty) := by
 intro pins s σ H Q I h
 refine wpAny_Call_method m.base m.few m.line PySem.F.plainAttrs_dict PySem.F.slot_dict_get PySem.F.type_dict_get (thn (ho pins s σ H _ I h) fun u s1 pk0 => ?_)
 refine gz9 fun _ bk0 => ?_
 obtain ⟨x, H1, I1, rx, a, ex, d, q1⟩ := pk0
 refine bk0 ?_
 subst ex
 obtain rfl : u = Value.ref a := rx
 obtain ⟨t1, t2, _⟩ := isD_at I1 d
 refine ⟨t1, t2, ?_⟩
 rw [m.trees]
 refine Calls.callWith_builtin rfl (Calls.evalArgs_plain (Calls.spliced_cons (thn (he pins s1 σ H1 _ I1 q1) fun iv s2 pk0 => ?_)))
 refine gz9 fun _ bk0 => ?_
 obtain ⟨y, H2, I2, ry, ov, g, q2⟩ := pk0
 refine bk0 ?_
 refine Calls.spliced_nil ?_
 exact d_get1 hu I2 g ry fun w' s3 I3 rw' => ⟨_, H2, I3, rw', q2⟩
theorem pe_dget2 (hu : X.A.units + 1 < cLine) (ho : PE X o td) (he : PE X e ty) (hf : PE X f tx) (m : M2 X o "get" apos e f cpos) : PE X (.Call (.Attribute o "get" apos) [e, f] [] cpos) (tDGet2 td ty tx) := by
 intro pins s σ H Q I h
 refine wpAny_Call_method m.base m.few m.line PySem.F.plainAttrs_dict PySem.F.slot_dict_get PySem.F.type_dict_get (thn (ho pins s σ H _ I h) fun u s1 pk0 => ?_)
 refine gz9 fun _ bk0 => ?_
 obtain ⟨x, H1, I1, rx, a, ex, d, q1⟩ := pk0
 refine bk0 ?_
 subst ex
 obtain rfl : u = Value.ref a := rx
 obtain ⟨t1, t2, _⟩ := isD_at I1 d
 refine ⟨t1, t2, ?_⟩
 rw [m.trees]
 refine Calls.callWith_builtin rfl (Calls.evalArgs_plain (Calls.spliced_cons (thn (he pins s1 σ H1 _ I1 q1) fun iv s2 ⟨y, H2, I2, ry, q2⟩ =>
  Calls.spliced_cons (thn (hf pins s2 σ H2 _ I2 q2) fun fv s3 ⟨z, H3, I3, rz, ov, g, q3⟩ => Calls.spliced_nil ?_))))
 exact d_get2 hu I3 g ry rz fun w' s4 I4 rw' => ⟨_, H3, I4, rw', q3⟩
end
section
variable {X : Cx} {pins : List (Addr × Obj)} {σ : St} {H : Hp} {s : Shared} {a : Addr} {kvs : List (Key × V)} {A : Around} {E : Value -> Shared -> Prop}
end
section
variable {X : Cx} {pins : List (Addr × Obj)} {σ : St} {H : Hp} {s : Shared} {a : Addr} {y : V} {u : Value} {A : Around} {E : Value -> Shared -> Prop}
end
end L2
namespace Att
open PySem PySem.W PySem.Calls PyProof.Rows
theorem ints_of_wellAll {P : Params} {h : Heap} : ∀ (ns : List Int) (vs : List Value), WellAll P h vs (ns.map WData.int) -> IntsAre vs ns := by
 intro ns
 induction ns with
 | nil =>
  intro vs w
  rw [List.map_nil] at w
  cases w
  exact .nil
 | cons n ns ih =>
  intro vs w
  rw [List.map_cons] at w
  cases w with
  | cons a b =>
   cases a
   exact .cons _ _ (ih _ b)
theorem script_of {l : OpenLaw} {n : Nat} (hn : l.most = some n) {P : Params} {h : Heap} {args : List WData} {vals : List Value}
  (hpre : l.row.toRowW.claim.pre args = true) (hwl : WellAll P h vals args) :
  ∃ a vs ns, vals = [Value.ref a] /\ args = [WData.list (ns.map WData.int)] /\ h.get? a = some { cls := .type "list", data := .seq vs.toArray } /\ IntsAre vs ns /\ ns.length <= n := by
 have hsh : WShape.hasAll [] args [.list .int] = true := (pre_splitW hpre).1
 have hc : l.pre.holds [] { args := args } = true := (pre_splitW hpre).2
 refine gz9 fun _ bk0 => ?_
 obtain ⟨d, r, rfl, h1, h2⟩ := hasAllW_cons hsh
 refine bk0 ?_
 obtain rfl := hasAllW_nil h2
 refine gz9 fun _ bk0 => ?_
 obtain ⟨xs, rfl, h3⟩ := hasW_list h1
 obtain ⟨ns, rfl⟩ := items_int h3
 refine bk0 ?_
 have hlen : ns.length <= n := by
  unfold OpenLaw.pre at hc
  have h4 : (WTm.not (.lt (.lit (.int (n : Int))) (.len (.arg 0)))).holds [] { args := [.list (ns.map .int)] } = true := by
   have h4 := (holds_andW hc).1
   rw [hn] at h4
   exact h4
  have h5 := condW_of h4 (w_not (w_lt w_lit (w_len_list (w_arg rfl))))
  rw [List.length_map] at h5
  refine Nat.le_of_not_lt fun q => ?_
  have q' : (n : Int) < ((ns.length : Nat) : Int) := by (first | lia | omega)
  first
   | (rw [decide_eq_true q'] at h5; exact absurd h5 (by decide))
   | (simp at h5; (first | lia | omega))
 cases hwl with
 | cons w1 w2 =>
  cases w2
  cases w1 with
  | list ho hall => exact ⟨_, _, ns, rfl, rfl, ho, ints_of_wellAll ns _ hall, hlen⟩
theorem post_true (l : OpenLaw) (args : List WData) : l.row.toRowW.claim.post args (.bool true) args = true :=
 postW_of (r := l.row.toRowW) (X := (true == true))
  (show WShape.has [] (.bool true) .bool = true by first | rfl | decide | simp [WShape.has, WShape.arms, WShape.armsAll])
  (show (WTm.eq .res (.lit (.bool true))).value [] { args := args, res := some (.bool true), after := args } = some (.bool (true == true)) from w_eq_bool (w_res rfl) w_lit) rfl
theorem attach_call {l : OpenLaw} {n : Nat} {q : Program} {loose : List Str} {XP : (Str -> Option Value) -> Heap -> Prop} {YP : World -> Heap -> Prop} {d : DefRec}
  (hn : l.most = some n) (hdf : d.params.defaults = [])
  (call : ∀ (w : World) (s₀ s₁ : Shared) (mg mb : Str -> Option Value) (fa : Addr) (o : Obj) (pm cd doc : Value) (a : Addr) (vs : List Value) (ns : List Int),
   Ground q loose [] XP w s₀ mg mb s₁.heap -> YP w s₁.heap →
   s₁.heap.get? fa = some o -> o.data = .func (docDef d.name d.params d.body d.scope pm cd doc) -> s₁.heap.CodeRec cd d.name -> mg d.name = some (.ref fa) →
   s₁.heap.get? a = some { cls := .type "list", data := .seq vs.toArray } -> IntsAre vs ns -> ns.length <= n -> s₁.gens = #[] →
   codeAny (model l.prog w) callerA (.call (.ref fa) ⟨[.ref a], []⟩) (fun r s' => r = .ok (.ret (.bool true)) /\ OldK s₁.heap s'.heap /\ s'.os = s₁.os /\ AllBare s'.gens) s₁) :
  WalkO q loose XP YP l.row.toRowW d [] (fun f vs => PySem.call f vs) := by
 intro w s₀ s₁ mg mb G Y fa o pm cd doc dV kV ho hd hcd hD hmg hg args vals as hpre hlay hrd hwl hlo
 obtain rfl : dV = .none := Dflts.none hD hdf
 obtain rfl : kV = .none := Dflts.noKw hD
 refine gz9 fun _ bk0 => ?_
 obtain ⟨a, vs, ns, rfl, rfl, hobj, hints, hlen⟩ := script_of hn hpre hwl
 refine bk0 ?_
 refine enter_call (codeAny_mono (call w s₀ s₁ mg mb fa o pm cd doc a vs ns G Y ho (fd_plain hd) hcd hmg hobj hints hlen hg) fun r s' hq => ?_)
 refine gz9 fun _ bk0 => ?_
 obtain ⟨rfl, h2, h3, h4⟩ := hq
 refine bk0 ?_
 exact ⟨.inl ⟨.bool true, .bool true, [], rfl, fun _ => rfl, .bool true, post_true l _, fun _ => ⟨List.Pairwise.nil, fun _ hm => (nomatch hm)⟩⟩, h2, h3, h4⟩
section
variable {prog : Program} {w : World} {A : Around} {E : Value -> Shared -> Prop} {s : Shared} {K : Frag}
noncomputable def noObjs (h : Heap) : Heap := { h with objs := #[] }
noncomputable def ledger (h : Heap) (L d : Addr) : List (Addr × Obj) := (List.range h.objs.size).filterMap fun a => if a = L \/ a = d then none else (h.get? a).map fun o => (a, o)
end
end Att
namespace L2
open PySem PySem.Spec PyProof.Rows
theorem vals_ints : ∀ {vs : List Value} {ns : List Int}, IntsAre vs ns -> Vals (ns.map V.int) vs
 | _, _, .nil => .nil
 | _, _, .cons n t h => .cons ⟨t, rfl⟩ (vals_ints h)
noncomputable def Only (H : Hp) : Prop := ∀ b, H b = none \/ ∃ o xs, H b = some (.frz o (.lst xs))
theorem law_call {P : Program} {w : World} {K : W.Frag} {mg mb : Str -> Option Value} {CX : CXT} {k : Nat} {fa a : Addr} {fd : FuncData} {x : Str} {sp : Sp} {s₁ : Shared} {vs : List Value} {ns : List Int}
  (KX : K.In s₁.heap) (hns : s₁.heap.Ns mainGlobals mg) (hb : s₁.heap.Ns builtinsNs mb) (hbb : ∀ x : Str, x ≠ "__name__" -> mb x = bootBuiltins x) (hlim : s₁.heap.NoLimit) (hg : s₁.gens = #[])
  (ha : s₁.heap.get? a = some { cls := .type "list", data := .seq vs.toArray }) (hi : IntsAre vs ns) (hl : ns.length <= sizeLine) (hr : Room k callerA)
  (F : ∀ base : Heap, K.In base -> base.Ns mainGlobals mg -> FnOk P w K mg base CX k fa fd [x] sp) (hbind : ∀ (s : Shared) (u : Value), BindsTo s fd ⟨[u], []⟩ [(x, u)])
  (hsp : ∀ H : Hp, Only H -> SqL K H a (ns.map V.int) -> sp [.ref a] H (fun v _ => v = .bl true) fun _ _ _ => False)
  (hCX : ∀ H e s', CX [] H s₁ (fun _ _ _ => False) e s' -> False) :
  codeAny (model P w) callerA (.call (.ref fa) ⟨[.ref a], []⟩) (fun r s' => r = .ok (.ret (.bool true)) /\ OldK s₁.heap s'.heap /\ s'.os = s₁.os /\ AllBare s'.gens) s₁ := by
 have rv := vals_ints hi
 have lenV := hi.length
 have core : ∀ H : Hp, Only H -> SqL K H a (ns.map V.int) -> HOk P w H s₁.heap -> (∀ b, H b ≠ none -> b = a) -> (H a ≠ none -> K.lookup a = none) →
   codeAny (model P w) callerA (.call (.ref fa) ⟨[.ref a], []⟩) (fun r s' => r = .ok (.ret (.bool true)) /\ OldK s₁.heap s'.heap /\ s'.os = s₁.os /\ AllBare s'.gens) s₁ := by
  intro H hO hS hok hA hK
  have base_of : ∀ {b : Addr} {o : Obj}, s₁.heap.get? b = some o -> H b = none -> (hidT s₁.heap H).get? b = some o := fun e n => hidT_get e n
  have noA : ∀ {b : Addr} {o : Obj} {es : Array DictEntry} {ep : Nat}, s₁.heap.get? b = some o -> o.data = .dict es ep -> H b = none := fun {b o es ep} e d => by
   cases q : H b with
   | none => rfl
   | some u =>
    have e' : b = a := hA b (by rw [q]; simp)
    subst e'
    rw [ha] at e; cases e
    have d' : Data.seq vs.toArray _ = Data.dict es ep := d
    cases d'
  have nsK : ∀ {b : Addr} {m : Str -> Option Value}, s₁.heap.Ns b m -> (hidT s₁.heap H).Ns b m := fun {b m} ⟨o, es, ep, e, d, r⟩ => ⟨o, es, ep, base_of e (noA e d), d, r⟩
  have hKb : K.In (hidT s₁.heap H) := fun b o e => base_of (KX b o e) (by
   cases q : H b with
   | none => rfl
   | some u =>
    have e' : b = a := hA b (by rw [q]; simp)
    subst e'
    rw [hK (by rw [q]; simp)] at e; cases e)
  have hM : Mod K mg (hidT s₁.heap H) := ⟨hKb, nsK hns, ⟨mb, nsK hb, hbb⟩, let ⟨mc, h1, h2⟩ := hlim; ⟨mc, nsK h1, h2⟩⟩
  have e0 : Env0 P w K mg (hidT s₁.heap H) callerA [] s₁ H := ⟨rfl, hM, fun b o e => of_hidT e, Nat.le_of_eq (hidT_size _ _), trivial, fun b hb => absurd (show b ∈ ([] : List Addr) from hb) (by simp), hok, .of_eq hg⟩
  refine codeAny_mono ((F _ hKb (nsK hns)).run callerA [] s₁ H ⟨[.ref a], []⟩ [.ref a] [.ref a] _ _ hr e0 (hbind s₁ (.ref a)) (.cons rfl .nil) (hsp H hO hS)) fun r s' h => ?_
  cases r with
  | error e => exact (hCX H e s' h).elim
  | ok fl =>
   cases fl with
   | next => exact False.elim h
   | brk => exact False.elim h
   | cont => exact False.elim h
   | ret u =>
    refine gz9 fun _ bk0 => ?_
    obtain ⟨v, H', os, bare, un, hok', r', q⟩ := h
    refine bk0 ?_
    have q' : v = .bl true := q
    subst q'
    obtain rfl : u = Value.bool true := r'
    refine ⟨rfl, OldK.of_keep fun b o e => ?_, os, bare⟩
    cases q : H b with
    | none => exact un.keep b o e q (by intro z; exact absurd (show b ∈ ([] : List Addr) from z) (by simp)) (by simp)
    | some u =>
     rcases hO b with z | ⟨ob, xs, z⟩
     ·rw [q] at z; cases z
     ·have z2 := un.frzs b ob _ z
      obtain ⟨e1, _⟩ := hok b _ z
      obtain ⟨e2, _⟩ := hok' b _ z2
      rw [e] at e1; cases e1
      exact e2
 cases hk : K.lookup a with
 | some o =>
  have e := KX a o hk
  rw [ha] at e
  cases e
  refine core (fun _ => none) (fun _ => .inl rfl) (.inr ⟨_, vs.toArray, _, hk, rfl, rfl, rfl, by rw [List.size_toArray, lenV]; exact hl, by simpa using rv⟩) (fun b u z => by have z' : (none : Option HO) = some u := z; cases z') (fun b z => absurd rfl z) fun z => absurd rfl z
 | none =>
  refine core (fun b => if b = a then some (.frz { cls := .type "list", data := .seq vs.toArray } (.lst (ns.map V.int))) else none) (fun b => ?_) (.inl (.inr ⟨{ cls := .type "list", data := .seq vs.toArray }, if_pos rfl⟩)) (fun b u z => ?_) (fun b z => ?_) fun _ => hk
  ·by_cases hb : b = a
   ·exact .inr ⟨_, _, if_pos hb⟩
   ·exact .inl (if_neg hb)
  ·by_cases hb : b = a
   ·have z' := (if_pos hb).symm.trans z
    cases z'
    subst hb
    exact ⟨ha, by rw [List.length_map]; exact hl, vs, _, rv, ha⟩
   ·have z' := (if_neg hb).symm.trans z
    cases z'
  ·by_cases hb : b = a
   ·exact hb
   ·exact absurd (if_neg hb) z
end L2
namespace L2
open PySem PySem.Spec PyProof.Rows
noncomputable abbrev KOf {K : W.Frag} {h : Heap} (_ : K.In h) : PySem.W.Frag := K
theorem walk_of {l : PySem.W.OpenLaw} {n k : Nat} {q : Program} {loose : List Str} {XP : (Str -> Option Value) -> Heap -> Prop} {YP : World -> Heap -> Prop} {d : DefRec} {K : Params -> PySem.W.Frag} {CX : World -> CXT} {sp : World -> Sp} {x : Str}
  (hn : l.most = some n) (hn2 : n <= sizeLine) (hdf : d.params.defaults = []) (hr : Room k callerA)
  (hY : ∀ (w : World) (h : Heap), YP w h -> (K w.params).In h)
  (F : ∀ (w : World) (mg : Str -> Option Value) (fa : Addr) (h : Heap), (K w.params).In h -> h.Ns mainGlobals mg -> mg d.name = some (.ref fa) →
   ∃ fd : FuncData, (∀ (s : Shared) (u : Value), BindsTo s fd ⟨[u], []⟩ [(x, u)]) ∧
    ∀ base : Heap, (K w.params).In base -> base.Ns mainGlobals mg -> FnOk l.prog w (K w.params) mg base (CX w) k fa fd [x] (sp w))
  (hsp : ∀ (w : World) (H : Hp) (a : Addr) (ns : List Int), ns.length <= n -> Only H -> SqL (K w.params) H a (ns.map V.int) -> sp w [.ref a] H (fun v _ => v = .bl true) fun _ _ _ => False)
  (hCX : ∀ (w : World) (H : Hp) (s : Shared) (e : Value) (s' : Shared), CX w [] H s (fun _ _ _ => False) e s' -> False) :
  PySem.W.WalkO q loose XP YP l.row.toRowW d [] (fun f vs => PySem.call f vs) := by
 refine Att.attach_call hn hdf fun w s₀ s₁ mg mb fa o pm cd doc a vs ns G Y ho hd hcd hmg hobj hints hlen hg => ?_
 have KX := hY w _ Y
 obtain ⟨fd, hb, hF⟩ := F w mg fa _ KX G.T.g hmg
 exact law_call KX G.T.g G.T.b G.T.builtins G.T.nolimit hg hobj hints (Nat.le_trans hlen hn2) hr hF hb (fun H hO hS => hsp w H a ns hlen hO hS) fun H e s' => hCX w H s₁ e s'
end L2
/- THE LAST THEOREM (shape; LID, My.* are yours):
   My.Adr: a structure of the addresses that your layer names (classes, functions); My.Txt K t: a structure (Prop) of the equations over K;
   My.txt_mk : {K} {implicit addresses ..} (e1 : nsIn K mainGlobals "law" = some (some (.ref f))) (e2 : K.lookup f = some ⟨oc, od, .func (fnOf "law" "law" params body scope dV kV doc pm an cdv ct), sl⟩) (e3 : codeIn K cdv "law" = true) .. : ∃ t, My.Txt K t
set_option maxRecDepth 100000 in
set_option maxHeartbeats 0 in
theorem PySem.Challenge.cw_LID_holds : PySem.Challenge.rw_LID.Holds := by
 w_on; o_law; k_head; (case hw => w_witness2)
 k_fill
 refine L2.walk_of (l := PySem.Challenge.rw_LID) (n := 63) (k := 40) (x := "script") (CX := fun w => ..) (sp := fun _ => My.sp_law) rfl (by decide) rfl ⟨rfl, by decide, by decide⟩ (fun w h Y => PySem.W.kIn_of Y) ?F ?S ?C
 case F =>
  intro w mg fa h KX G hmg
  have T : ∃ t, My.Txt (L2.KOf KX) t := by
   dsimp only [L2.KOf]                          -- K must stand as «<heap const> w.params» for k_is
   refine' My.txt_mk ?e1 ?e2 ?e3 ..
   (case e1 => PySem.W.k_is)                    -- in the order: a name -> its address -> its object -> its parts
   (case e2 => PySem.W.k_is)
   ..
  obtain ⟨t, T⟩ := T
  have e0 := hmg.symm.trans (PySem.W.mg_of KX G T.law)
  cases e0                                       -- fa is the law's own address
  exact ⟨_, fun s u => .of_eq rfl, fun base kb nb => My.law_fn T kb nb⟩     -- if «.of_eq rfl» comes too early: refine' ⟨_, ?b, fun base kb nb => My.law_fn T kb nb⟩; exact fun s u => .of_eq rfl
 case S => exact fun w H a ns hl hO hS => ..
 case C => exact ..
(the tactic k_is has no namespace: write k_is) -/
namespace L2
open PySem PySem.Spec PyProof.Rows
noncomputable def inClass (s : Stmt) (j : Nat) : Stmt := match s with
 | .ClassDef _ _ _ body _ _ _ _ _ _ _ => body.getD j (.Pass ⟨0, 0, 0, 0⟩)
 | _ => .Pass ⟨0, 0, 0, 0⟩
noncomputable def defArgs (s : Stmt) : Arguments := match s with
 | .FunctionDef _ a _ _ _ _ _ _ _ _ => a
 | _ => { posonlyargs := [], args := [], vararg := none, kwonlyargs := [], kw_defaults := [], kwarg := none, defaults := [] }
noncomputable def defBody (s : Stmt) : List Stmt := match s with
 | .FunctionDef _ _ b _ _ _ _ _ _ _ => b
 | _ => []
noncomputable def defScope (s : Stmt) : Scope := match s with
 | .FunctionDef _ _ _ _ _ _ sc _ _ _ => sc
 | _ => { kind := .function, names := [], isGenerator := false, isCoroutine := false }
noncomputable abbrev CX0 : CXT := fun _ _ _ _ _ _ => False
noncomputable abbrev E0 : XK := fun _ _ _ => False
theorem pass0 {X : Cx} : Passes CX0 X E0 := fun _ _ _ _ _ _ _ h => h.elim
structure Fun (K : W.Frag) (x qual : Str) (st : Stmt) (f : Addr) (fd : FuncData) : Prop where
 ex : ∃ (oc : Value) (od : Option Addr) (kV doc pm : Value) (an : Option Addr) (cdv ct : Value) (osl : Array (Option Value)),
  fd = PySem.W.fnOf x qual (defArgs st) (defBody st) (defScope st) .none kV doc pm an cdv ct /\ K.lookup f = some ⟨oc, od, .func fd, osl⟩ /\ PySem.W.codeIn K cdv qual = true
 kp : PySem.W.keepIn K (.ref f) = true
section
variable {P : Program} {w : World} {K : W.Frag} {mg : Str -> Option Value} {base : Heap}
theorem Fun.ok {x qual : Str} {st : Stmt} {f : Addr} {fd : FuncData} {N ps : List Str} {k : Nat} {sp : Sp} (F : Fun K x qual st f fd) (S : FnScope N ps (defScope st)) (len : ∀ vs H Q E, sp vs H Q E -> vs.length = ps.length)
  (hbody : ∀ (cdv : Value) (A : Around) (outer : List Env) (s : Shared) (H : Hp) (vs : List V) (Q : VK) (E : XK), Room k (A.deeper (envOfC qual (defScope st) s.heap.objs.size f cdv)) -> sp vs H Q E →
   ∃ t, PSs (cxOf CX0 P w K mg base N qual (defScope st) f cdv A outer s H E).nox (defBody st) t /\ t { nx := fun _ H' => Q .non H', rt := Q } (start N vs) H) : FnOk P w K mg base CX0 (k + 1) f fd ps sp := by
 refine gz9 fun _ bk0 => ?_
 obtain ⟨oc, od, kV, doc, pm, an, cdv, ct, osl, rfl, lk, hcd⟩ := F.ex
 refine bk0 ?_
 refine fn_of lk hcd S len fun A outer s H vs Q E hr hsp => ?_
 obtain ⟨t, h, q⟩ := hbody cdv A outer s H vs Q E hr hsp
 exact ⟨t, h.nox, q⟩
theorem Fun.binds {x qual : Str} {st : Stmt} {f : Addr} {fd : FuncData} {ps : List Str} (F : Fun K x qual st f fd)
  (h : ∀ (kV doc pm : Value) (an : Option Addr) (cdv ct : Value) (us : List Value), us.length = ps.length -> bindArgs (PySem.W.fnOf x qual (defArgs st) (defBody st) (defScope st) .none kV doc pm an cdv ct) ⟨us, []⟩ = pure (ps.zip us)) : Binds K fd ps [] := by
 refine gz9 fun _ bk0 => ?_
 obtain ⟨oc, od, kV, doc, pm, an, cdv, ct, osl, rfl, lk, hcd⟩ := F.ex
 refine bk0 ?_
 exact .all (h kV doc pm an cdv ct)
theorem fun_mk {x qual : Str} {st : Stmt} {f : Addr} {oc : Value} {od an : Option Addr} {osl : Array (Option Value)} {kV doc pm cdv ct : Value} (l : K.lookup f = some ⟨oc, od, .func (PySem.W.fnOf x qual (defArgs st) (defBody st) (defScope st) .none kV doc pm an cdv ct), osl⟩)
  (c : PySem.W.codeIn K cdv qual = true) (k : PySem.W.keepIn K (.ref f) = true) : Fun K x qual st f (PySem.W.fnOf x qual (defArgs st) (defBody st) (defScope st) .none kV doc pm an cdv ct) := ⟨⟨oc, od, kV, doc, pm, an, cdv, ct, osl, rfl, l, c⟩, k⟩
end
theorem hu_of {A : Around} {k : Nat} (hr : Room k A) : A.units + 1 < cLine := Nat.lt_of_le_of_lt (Nat.add_le_add_left (by decide : 1 <= 64) _) hr.units
theorem small1000 {n : Nat} (h : n <= 1000) : n < sizeLine := Nat.lt_of_le_of_lt h (by decide)
section
variable {X : Cx}
theorem pv (i : Nat) {x : Str} {pos : Pos} (hN : X.N[i]? = some x := by rfl) (hv : Vis X.env.scope x := by first | exact Or.inl rfl | exact Or.inr (Or.inl rfl) | exact Or.inr (Or.inr rfl)) (hd : (x == ("__debug__" : Str)) = false := by decide)
  (hcd : (x == ("__classdict__" : Str)) = false := by decide) : PE X (.Name x pos) (tVar i) := pe_var hN hv hd hcd
end
theorem iteF {A B : Prop} (h : B) : if false = true then A else B := by
 rw [if_neg Bool.false_ne_true]
 exact h
theorem iteT {A B : Prop} (h : A) : if true = true then A else B := by
 rw [if_pos rfl]
 exact h
theorem ite2 {c A B : Prop} [Decidable c] (h1 : c -> A) (h2 : ¬ c -> B) : if c then A else B := by
 by_cases h : c
 ·rw [if_pos h]
  exact h1 h
 ·rw [if_neg h]
  exact h2 h
theorem iteNS {c A B : Prop} [Decidable c] (hc : c) (h : B) : if (!decide c) = true then A else B := by
 rw [decide_eq_true hc]
 exact iteF h
noncomputable def Same (H H' : Hp) : Prop := ∀ b o, H b = some o -> H' b = some o
theorem Same.refl (H : Hp) : Same H H := fun _ _ h => h
theorem Same.trans {H H1 H2 : Hp} (a : Same H H1) (b : Same H1 H2) : Same H H2 := fun c o h => b c o (a c o h)
theorem Same.free {H H' : Hp} (e : Same H H') {l : Addr} (h : H' l = Option.none) : H l = Option.none := by
 cases q : H l with
 | none => rfl
 | some o =>
  rw [e l o q] at h
  cases h
theorem Same.seq {K : W.Frag} {H H' : Hp} {a : Addr} {xs : List V} (e : Same H H') (h : SqL K H a xs) : SqL K H' a xs := by
 rcases h with (h | ⟨o, h⟩) | h
 ·exact .inl (.inl (e _ _ h))
 ·exact .inl (.inr ⟨o, e _ _ h⟩)
 ·exact .inr h
section
variable {κ : Type} [DecidableEq κ]
theorem dropK_pos {p : κ × V} {r : List (κ × V)} {k : κ} (e : p.1 = k) : dropK (p :: r) k = dropK r k := by
 unfold dropK
 rw [List.filter_cons, if_neg (by simp [e])]
theorem dropK_neg {p : κ × V} {r : List (κ × V)} {k : κ} (e : ¬ p.1 = k) : dropK (p :: r) k = p :: dropK r k := by
 unfold dropK
 rw [List.filter_cons, if_pos (by simp [e])]
theorem dropK_no : ∀ {kvs : List (κ × V)} {k : κ}, ¬ k ∈ kvs.map (·.1) -> dropK kvs k = kvs
 | [], _, _ => rfl
 | p :: r, k, h => by
  have h' : ¬ k ∈ r.map (·.1) := fun m => by
   obtain ⟨q, hq, e⟩ := List.mem_map.mp m
   exact h (List.mem_map.mpr ⟨q, List.mem_cons.mpr (Or.inr hq), e⟩)
  rw [dropK_neg fun e => h (List.mem_map.mpr ⟨p, List.mem_cons.mpr (Or.inl rfl), e⟩), dropK_no h']
theorem dropK_mem {kvs : List (κ × V)} {k : κ} {p : κ × V} (h : p ∈ dropK kvs k) : p ∈ kvs := (List.mem_filter.mp h).1
end
end L2
set_option maxHeartbeats 4000000
namespace L2
open PySem PySem.Spec PyProof.Rows
noncomputable def CXx (P : Program) (w : World) : CXT := fun outer H s E e s' => ∃ (ea : Addr) (cls a0 : Value) (B : Heap) (H' : Hp),
 e = .ref ea /\ s'.os = s.os /\ AllBare s'.gens /\ Un (frs outer) [] H H' s.heap s'.heap /\ HOk P w H' s'.heap /\ Heap.FlyingW B outer ea cls a0 s'.heap ∧
 (∀ b u, H' b = some u -> ∃ o, B.get? b = some o) /\ (∀ b o, s.heap.get? b = some o -> b ∉ frs outer -> ∃ o', B.get? b = some o') /\ E cls none H'
section
variable {X : Cx} {pins : List (Addr × Obj)} {σ : St} {H : Hp} {s s' : Shared} {E : XK} {e : Value}
structure Own (X : Cx) : Prop where
 st : X.stack = X.env :: X.outer
 fr : X.env.frame = some X.env.locals
 ex : X.ex = []
end
structure ExcC (K : W.Frag) (mg : Str -> Option Value) (x : Str) (C : Addr) (bm : List Value) (newId : String) : Prop where
 at_ : mg x = some (.ref C)
 ex : PySem.W.excIn K C bm newId = true
section
variable {P : Program} {w : World} {K : W.Frag} {mg : Str -> Option Value} {base : Heap} {N : List Str} {qual : Str} {scope : Scope} {f : Addr} {cd : Value} {A : Around} {outer : List Env} {s₀ : Shared} {H₀ : Hp} {E : XK}
noncomputable def tRaise (E : XK) (C : Addr) : TS := fun _ _ H => E (.ref C) none H
end
end L2
namespace L2
open PySem PySem.Spec PyProof.Rows
noncomputable def trX (X : Cx) (R : Value -> St -> Hp -> Prop) (e : Value) (s' : Shared) : Prop :=
 ∃ (pins' : List (Addr × Obj)) (σ : St) (H : Hp) (s : Shared), Inv X pins' σ H s /\ CXx X.prog X.w X.stack H s (fun cls _ H' => R cls σ H') e s'
noncomputable abbrev Cx.pin (X : Cx) (pins : List (Addr × Obj)) : Cx := { X with pn := X.pn ++ pins }
noncomputable abbrev Cx.tr (X : Cx) (pins : List (Addr × Obj)) (R : Value -> St -> Hp -> Prop) : Cx := { X with pn := X.pn ++ pins, xe := trX (X.pin pins) R }
noncomputable abbrev Cx.held (X : Cx) (ea : Addr) : Cx := { X with A := X.A.mark (some (.ref ea)), calm := false, xe := fun _ _ => False }
section
variable {X : Cx} {pins pins' : List (Addr × Obj)} {σ : St} {H : Hp} {s : Shared} {R : Value -> St -> Hp -> Prop}
end
structure Cau (X : Cx) (pins : List (Addr × Obj)) (σ : St) (H : Hp) (ea : Addr) (cls : Value) (s : Shared) : Prop where
 ex : ∃ (H1 : Hp) (s0 : Shared) (B : Heap) (a0 : Value), Inv X pins σ H1 s0 /\ s.os = s0.os /\ AllBare s.gens /\ Un (frs X.stack) [] H1 H s0.heap s.heap /\ HOk X.prog X.w H s.heap /\ Heap.FlyingW B X.stack ea cls a0 s.heap ∧
  (∀ b u, H b = some u -> ∃ o, B.get? b = some o) /\ ∀ b o, s0.heap.get? b = some o -> b ∉ frs X.stack -> ∃ o', B.get? b = some o'
section
variable {X : Cx} {pins : List (Addr × Obj)} {σ : St} {H : Hp} {s : Shared} {ea : Addr} {cls : Value}
end
noncomputable def PH (X : Cx) (hs : List ExceptHandler) (th : Value -> TS) : Prop :=
 ∀ (pins : List (Addr × Obj)) (s : Shared) (σ : St) (H : Hp) (D : Ends) (ea : Addr) (cls : Value), Cau X pins σ H ea cls s -> th cls D σ H -> wpAny (model X.prog X.w) X.A (handleBy (.ref ea) X.env hs) (SP X pins D) X.xe s
noncomputable def tTry (tb : (Value -> St -> Hp -> Prop) -> TS) (th : Value -> TS) : TS := fun D σ H => tb (fun cls σ' H' => th cls D σ' H') D σ H
noncomputable def tHit (K : W.Frag) (C : Addr) (ts : TS) (tr : Value -> TS) : Value -> TS := fun cls D σ H => ∃ b, PySem.W.exmOne K cls (.ref C) = some b /\ if b = true then ts D σ H else tr cls D σ H
noncomputable def excO (a C : Addr) : HO := .ext fun h => ∃ o vs, h.get? a = some o /\ o.cls = .ref C /\ o.data = .fields vs
section
variable {X : Cx} {pins : List (Addr × Obj)} {σ : St} {H : Hp} {s : Shared} {ea C : Addr}
end
noncomputable def tHitAs (K : W.Frag) (C : Addr) (i : Nat) (ts : TS) (tr : Value -> TS) : Value -> TS := fun cls D σ H => ∃ b, PySem.W.exmOne K cls (.ref C) = some b /\ if b = true then
  ∃ Cx, cls = .ref Cx /\ ∀ ea, H ea = none -> ts { nx := fun σ' H' => D.nx (σ'.set i none) H', rt := D.rt, bk := fun σ' H' => D.bk (σ'.set i none) H', ct := fun σ' H' => D.ct (σ'.set i none) H' } (σ.set i (some (.ref ea))) (upd H ea (excO ea Cx))
 else tr cls D σ H
noncomputable def PassS (CX : CXT) (X : Cx) (E : St -> XK) : Prop := ∀ (pins : List (Addr × Obj)) (σ : St) (H : Hp) (s : Shared) (e : Value) (s' : Shared), Inv X pins σ H s -> CX X.stack H s (E σ) e s' -> X.xe e s'
noncomputable def tMakeS (C : Addr) (sp : Sp) (E : St -> XK) (t : TA) : TE := fun σ H Q => t σ H fun vs H1 => ∀ x dx, H1 x = none -> H1 dx = none -> dx ≠ x →
 sp (.ref x :: vs) (upd (upd H1 dx (.own x)) x (.ins C dx [])) (fun v H2 => v = .non /\ Q (.ref x) H2) (E σ)
section
variable {X : Cx} {CX : CXT} {k : Nat} {f C : Addr} {fd : FuncData} {ps : List Str} {sp : Sp} {E : St -> XK} {x : Str} {p pos : Pos} {e : Expr} {es : List Expr} {t : TA}
end
end L2
namespace L2
open PySem PySem.Spec PyProof.Rows PySem.W Builtin Builtin.ObjectAttr Builtin.Getset_descriptor
structure ExcA (K : Frag) (C : Addr) : Prop where
 ga : findIn K (.ref C) "__getattribute__" = some (some (.builtin "BaseException.__getattribute__"))
 gx : findIn K (.ref C) "__getattr__" = some none
 ca : findIn K (.ref C) "__class__" = some (some (.builtin "object.__class__"))
 cn : specialIn K (.builtin "object.__class__") "__get__" = some (some (.builtin "getset_descriptor.__get__"))
 ct : takesIn K (.builtin "object.__class__") = some true
 mo : mroIn K C (.type "object") = some true
 mb : mroIn K C (.type "BaseException") = some true
 cl : (clsIn K C).isSome = true
section
variable {K : Frag} {C x : Addr} {h : Heap} {M : Model}
variable {prog : Program} {w : World} {A : Around} {E : Value -> Shared -> Prop} {s : Shared}
end
noncomputable def rIsi (K : Frag) : List V -> Hp -> VK -> Prop := fun vs H Q => ∃ a C b, H a = some (excO a C) /\ ExcA K C /\ Q (.bl b) H ∧
  ((∃ D, vs = [.ref a, .ref D] /\ kitOne K (.ref C) (.ref D) = some b) \/ (∃ T, vs = [.ref a, .ty T] /\ kitOne K (.ref C) (.type T) = some b) ∨
   ∃ (t : Addr) (ds : List Addr), vs = [.ref a, .ref t] /\ H t = some (.tup (ds.map V.ref)) /\ kitAny K (.ref C) (ds.map Value.ref) = some b)
end L2
namespace Sx
open PySem.W PyProof.Rows
noncomputable def Wp {α : Type} (N : Nat) (lt : Nat -> Nat -> Bool) : KasT α -> (α -> Prop) -> Prop
 | .ret a, Q => Q a
 | .ask i j k, Q => i < N /\ j < N /\ Wp N lt (k (lt i j)) Q
theorem Wp.bind {α β : Type} {N : Nat} {lt : Nat -> Nat -> Bool} {f : α -> KasT β} {Q : β -> Prop} : ∀ (t : KasT α), Wp N lt t (fun a => Wp N lt (f a) Q) -> Wp N lt (t.bind f) Q
 | .ret _, h => h
 | .ask _ _ k, ⟨h1, h2, h⟩ => ⟨h1, h2, Wp.bind (k _) h⟩
section
variable {O : KeyOrd} (key : Nat -> O.α)
noncomputable def KP (p : Array Nat) (i : Nat) : O.α := key (p[i]?.getD 0)
noncomputable def Up (p : Array Nat) (k : Nat) : Prop := ∀ i j, i <= j -> j < k -> O.kle (KP key p i) (KP key p j)
noncomputable def Down (p : Array Nat) (k : Nat) : Prop := ∀ i j, i <= j -> j < k -> O.kle (KP key p j) (KP key p i)
noncomputable def ltK (i j : Nat) : Bool := O.blt (key i) (key j)
noncomputable def PB (N : Nat) (p : Array Nat) : Prop := p.Perm (List.range N).toArray
end
theorem PB.size {N : Nat} {p : Array Nat} (h : PB N p) : p.size = N := by
 have := Array.Perm.size_eq h
 simpa using this
theorem PB.below {N : Nat} {p : Array Nat} (h : PB N p) {i : Nat} (hi : i < N) : p.getD i 0 < N := by
 have hs := h.size
 have hi' : i < p.size := by (first | lia | omega)
 have e : p.getD i 0 = p[i] := by simp [Array.getD, hi']
 have hm : p[i] ∈ (List.range N).toArray := (Array.Perm.mem_iff h).mp (Array.getElem_mem hi')
 rw [e]
 simpa using hm
theorem getD_eq (p : Array Nat) (i : Nat) : p.getD i 0 = p[i]?.getD 0 := by simp
theorem PB.rev {N : Nat} {p : Array Nat} (h : PB N p) (i j : Nat) : PB N (kas_rev p i j) := (mirror_perm _ _ _ _).trans h
theorem PB.bub {N : Nat} {p : Array Nat} (h : PB N p) (i j : Nat) : PB N (bubble p i j) := (bubble_perm _ _ _).trans h
section
variable {O : KeyOrd} {key : Nat -> O.α} {N : Nat} {p : Array Nat}
theorem KP_rev {i j : Nat} (hj : j <= p.size) (k : Nat) : KP key (kas_rev p i j) k = if i <= k /\ k < j then KP key p (i + j - 1 - k) else KP key p k := by
 have e := getElem?_mirror_all (xs := p) (i := i) hj k
 unfold KP kas_rev
 rw [e]
 by_cases h : i <= k /\ k < j
 ·rw [if_pos h, if_pos h]
 ·rw [if_neg h, if_neg h]
theorem KP_bub {src d : Nat} (hs : src < p.size) (hd : d <= src) (k : Nat) :
  KP key (bubble p src d) k = if k = src - d then KP key p src else if src - d < k /\ k <= src then KP key p (k - 1) else KP key p k := by
 have e := getElem?_bubble hs d hd k
 unfold KP
 rw [e]
 by_cases h : k = src - d
 ·rw [if_pos h, if_pos h]
 ·rw [if_neg h, if_neg h]
  by_cases h2 : src - d < k /\ k <= src
  ·rw [if_pos h2, if_pos h2]
  ·rw [if_neg h2, if_neg h2]
theorem KP_rev_alike {i j : Nat} (hj : j <= p.size) (he : ∀ k, i <= k -> k < j -> KP key p k = KP key p (j - 1)) (k : Nat) : KP key (kas_rev p i j) k = KP key p k := by
 rw [KP_rev hj]
 by_cases h : i <= k /\ k < j
 ·rw [if_pos h, he _ (by (first | lia | omega)) (by (first | lia | omega)), he k h.1 h.2]
 ·rw [if_neg h]
theorem lt_true {i j : Nat} (h : ltK key (p.getD i 0) (p.getD j 0) = true) : O.klt (KP key p i) (KP key p j) := by
 rw [getD_eq, getD_eq] at h
 exact h
theorem lt_false {i j : Nat} (h : ltK key (p.getD i 0) (p.getD j 0) = false) : O.kle (KP key p j) (KP key p i) := by
 rw [getD_eq, getD_eq] at h
 exact h
theorem Up.grow {n : Nat} (h : Up key p n) (h1 : 1 <= n) (hn : O.kle (KP key p (n - 1)) (KP key p n)) : Up key p (n + 1) := fun i j hij hj => by
 by_cases e : j < n
 ·exact h i j hij e
 ·obtain rfl : j = n := by (first | lia | omega)
  by_cases e2 : i = j
  ·subst e2; exact KeyOrd.kle_refl _
  ·exact KeyOrd.kle_trans (h i (j - 1) (by (first | lia | omega)) (by (first | lia | omega))) hn
theorem Down.grow {n : Nat} (h : Down key p n) (h1 : 1 <= n) (hn : O.kle (KP key p n) (KP key p (n - 1))) : Down key p (n + 1) := fun i j hij hj => by
 by_cases e : j < n
 ·exact h i j hij e
 ·obtain rfl : j = n := by (first | lia | omega)
  by_cases e2 : i = j
  ·subst e2; exact KeyOrd.kle_refl _
  ·exact KeyOrd.kle_trans hn (h i (j - 1) (by (first | lia | omega)) (by (first | lia | omega)))
theorem place_wp {k : Nat} {Q : Nat -> Prop} (hp : PB N p) (hk : k < N) (hu : Up key p k) : ∀ (f l r : Nat), l <= r -> r <= k -> r - l <= f -> (∀ i, i < l -> O.kle (KP key p i) (KP key p k)) -> (∀ i, r <= i -> i < k -> O.klt (KP key p k) (KP key p i)) →
  (∀ l, l <= k -> (∀ i, i < l -> O.kle (KP key p i) (KP key p k)) -> (∀ i, l <= i -> i < k -> O.klt (KP key p k) (KP key p i)) -> Q l) -> Wp N (ltK key) (kas_place p k f l r) Q
 | 0, l, r, a, b, c, lo, hi, h => h l (by (first | lia | omega)) lo (fun i x y => hi i (by (first | lia | omega)) y)
 | f + 1, l, r, a, b, c, lo, hi, h => by
  unfold kas_place
  by_cases e : l >= r
  ·rw [if_pos e]
   exact h l (by (first | lia | omega)) lo (fun i x y => hi i (by (first | lia | omega)) y)
  ·rw [if_neg e]
   refine ⟨hp.below hk, hp.below (by (first | lia | omega)), ?_⟩
   cases d : ltK key (p.getD k 0) (p.getD ((l + r) / 2) 0) with
   | true => exact place_wp hp hk hu f l ((l + r) / 2) (by (first | lia | omega)) (by (first | lia | omega)) (by (first | lia | omega)) lo (fun i x y => KeyOrd.klt_of_klt_of_kle (lt_true d) (hu _ _ x y)) h
   | false => exact place_wp hp hk hu f ((l + r) / 2 + 1) r (by (first | lia | omega)) b (by (first | lia | omega)) (fun i x => KeyOrd.kle_trans (hu i ((l + r) / 2) (by (first | lia | omega)) (by (first | lia | omega))) (lt_false d)) hi h
end
end Sx
namespace Sx
open PySem PySem.W PyProof.Rows
theorem lex_irr : ∀ a : List Int, HT.lexLt a a = false
 | [] => rfl
 | x :: xs => by rw [HT.lexLt_cons, if_pos rfl]; exact lex_irr xs
theorem lex_trans : ∀ a b c : List Int, HT.lexLt a b = true -> HT.lexLt b c = true -> HT.lexLt a c = true
 | [], _, [], h1, h2 => by
  rename_i b
  cases b with
  | nil => exact h1
  | cons y ys => rw [HT.lexLt_cons_nil] at h2; cases h2
 | [], _, _ :: _, _, _ => rfl
 | x :: xs, [], _, h1, _ => by rw [HT.lexLt_cons_nil] at h1; cases h1
 | x :: xs, y :: ys, [], _, h2 => by rw [HT.lexLt_cons_nil] at h2; cases h2
 | x :: xs, y :: ys, z :: zs, h1, h2 => by
  rw [HT.lexLt_cons] at h1 h2 ⊢
  by_cases e1 : x = y
  ·subst e1
   rw [if_pos rfl] at h1
   by_cases e2 : x = z
   ·rw [if_pos e2] at h2 ⊢
    exact lex_trans xs ys zs h1 h2
   ·rw [if_neg e2] at h2 ⊢
    exact h2
  ·rw [if_neg e1] at h1
   have l1 : x < y := of_decide_eq_true h1
   by_cases e2 : y = z
   ·subst e2
    rw [if_neg e1]
    exact h1
   ·rw [if_neg e2] at h2
    have l2 : y < z := of_decide_eq_true h2
    rw [if_neg (by (first | lia | omega))]
    exact decide_eq_true (by (first | lia | omega))
theorem lex_tot : ∀ a b : List Int, HT.lexLt a b = false -> HT.lexLt b a = false -> a = b
 | [], [], _, _ => rfl
 | [], _ :: _, h, _ => by rw [HT.lexLt_nil_cons] at h; cases h
 | _ :: _, [], _, h => by rw [HT.lexLt_nil_cons] at h; cases h
 | x :: xs, y :: ys, h1, h2 => by
  rw [HT.lexLt_cons] at h1 h2
  by_cases e : x = y
  ·subst e
   rw [if_pos rfl] at h1 h2
   rw [lex_tot xs ys h1 h2]
  ·rw [if_neg e] at h1
   rw [if_neg (Ne.symm e)] at h2
   have l1 : ¬ x < y := of_decide_eq_false h1
   have l2 : ¬ y < x := of_decide_eq_false h2
   (first | lia | omega)
theorem lex_neg (a b c : List Int) (h : HT.lexLt a c = true) : HT.lexLt a b = true \/ HT.lexLt b c = true := by
 cases e1 : HT.lexLt a b with
 | true => exact .inl rfl
 | false =>
  refine .inr ?_
  cases e2 : HT.lexLt b a with
  | true => exact lex_trans b a c e2 h
  | false =>
   have e := lex_tot a b e1 e2
   subst e
   exact h
noncomputable def lexO : KeyOrd where
 α := List Int
 blt := HT.lexLt
 irrefl := lex_irr
 trans := lex_trans
 negTrans := lex_neg
 total := lex_tot
section
variable {prog : Program} {w : World} {A : Around} {E : Value -> Shared -> Prop} {s : Shared}
theorem kat_ints {b fin : Bool} {Q : Bool -> Shared -> Prop} : ∀ {vs us : List Value} {ns ms : List Int} (i : Nat), IntsAre vs ns -> IntsAre us ms -> fin = decide (ns.length < ms.length) -> Q (HT.lexLt ns ms) s →
  KatLex prog w A b fin Q (vs.zip us) i s
 | _, _, _, _, i, .nil, .nil, e, h => by
  have e' : fin = false := e
  subst e'
  exact kat_nil h
 | _, _, _, _, i, .nil, .cons _ _ _, e, h => by
  have e' : fin = true := by rw [e]; exact decide_eq_true (by simp)
  subst e'
  exact kat_nil h
 | _, _, _, _, i, .cons _ _ _, .nil, e, h => by
  have e' : fin = false := by rw [e]; exact decide_eq_false (by simp)
  subst e'
  exact kat_nil h
 | _, _, _, _, i, .cons a t ha, .cons c u hc, e, h => by
  rw [List.zip_cons_cons]
  rw [HT.lexLt_cons] at h
  refine kat_cons (wpAny_eqBool_int (kat_go (fun q => ?_) fun q => ?_))
  ·have ac : a = c := eq_of_beq q
   rw [if_pos ac] at h
   exact kat_yes (kat_ints (i + 1) ha hc (by rw [e]; simp) h)
  ·have ac : ¬ a = c := by simpa using q
   rw [if_neg ac] at h
   refine kat_no ?_
   cases (b && i == 0) with
   | true => exact oneLt_int h
   | false => exact kat_one _ _ (PyProof.Rows.lt_int h)
noncomputable def TupI (h : Heap) (a : Addr) (t : List Int) : Prop := ∃ o its n, h.get? a = some o /\ o.cls = .type "tuple" /\ o.data = .seq its n /\ IntsAre its.toList t
theorem TupI.keep {h h' : Heap} {a : Addr} {t : List Int} (x : TupI h a t) (k : ∀ o, h.get? a = some o -> h'.get? a = some o) : TupI h' a t :=
 let ⟨o, its, n, e, r⟩ := x; ⟨o, its, n, k o e, r⟩
theorem lt_tups {x y : Addr} {b : Bool} {t u : List Int} {Q : Bool -> Shared -> Prop} (hx : TupI s.heap x t) (hy : TupI s.heap y u) (h : Q (HT.lexLt t u) s) : wpAny (model prog w) A (keyLt' (tuples' b) (.ref x) (.ref y)) Q E s := by
 refine gz9 fun _ bk0 => ?_
 obtain ⟨ox, xs, n, ex, _, dx, ix⟩ := hx
 obtain ⟨oy, ys, k, ey, _, dy, iy⟩ := hy
 refine bk0 ?_
 refine kat_lt ex dx ey dy (kat_ints 0 ix iy ?_ h)
 rw [<- ix.length, <- iy.length, Array.length_toList, Array.length_toList]
theorem kind_tups {rs : List Addr} {ts : List (List Int)} {Q : SortKind -> Shared -> Prop} (h2 : 0 < rs.length) (hp : Paired (fun r t => TupI s.heap r t /\ t ≠ []) rs ts) (h : ∀ b, Q (tuples' b) s) :
  wpAny (model prog w) A (keyKind' (rs.map Value.ref).toArray) Q E s := by
 have all : ∃ fs : List Value, KatTups s.heap (rs.map Value.ref) fs /\ fs.length = rs.length /\ ∀ v ∈ fs, ∃ i t, v = Value.int i t := by
  clear h h2
  induction hp with
  | nil => exact ⟨[], trivial, rfl, fun v hv => nomatch hv⟩
  | @cons r t rs ts hr _ ih =>
   refine gz9 fun _ bk0 => ?_
   obtain ⟨fs, k1, k2, k3⟩ := ih
   obtain ⟨⟨o, its, n, e, c, d, ii⟩, hne⟩ := hr
   refine bk0 ?_
   cases t with
   | nil => exact absurd rfl hne
   | cons i t =>
    generalize hL : its.toList = L at ii
    cases ii with
    | cons _ tk ii' =>
     have h0 : its[0]? = some (Value.int i tk) := by rw [<- Array.getElem?_toList, hL]; rfl
     refine ⟨Value.int i tk :: fs, ⟨⟨r, o, its, n, rfl, e, c, d, h0⟩, k1⟩, by rw [List.length_cons, List.length_cons, k2], fun v hv => ?_⟩
     rcases List.mem_cons.mp hv with rfl | hv
     ·exact ⟨i, tk, rfl⟩
     ·exact k3 v hv
 refine gz9 fun _ bk0 => ?_
 obtain ⟨fs, k1, k2, k3⟩ := all
 refine bk0 ?_
 refine kat_kind (T := .type "int") k1 (by (first | lia | omega)) (fun v hv => ?_) (by decide) (h _)
 obtain ⟨i, tk, rfl⟩ := k3 v hv
 exact Looks.of_pure rfl
structure Sorted (rs : List Addr) (ts : List (List Int)) (rs' : List Addr) (ts' : List (List Int)) : Prop where
 perm : (rs'.zip ts').Perm (rs.zip ts)
 len : rs'.length = ts'.length
 ord : ts'.Pairwise fun a b => HT.lexLt b a = false
end
end Sx
namespace Sx
open PySem PySem.W PyProof.Rows
section
variable {prog : Program} {w : World} {A : Around} {E : Value -> Shared -> Prop} {s : Shared}
theorem pair_at {α β : Type} {F : α -> β -> Prop} : ∀ {l₁ : List α} {l₂ : List β} {i : Nat} {a : α}, Paired F l₁ l₂ -> l₁[i]? = some a -> ∃ b, l₂[i]? = some b /\ F a b
 | _, _, _, _, .nil, e => by simp at e
 | _, _, 0, _, .cons h _, e => by simp at e; subst e; exact ⟨_, rfl, h⟩
 | _, _, i + 1, a, .cons _ t, e => by
  obtain ⟨b, h1, h2⟩ := pair_at (i := i) (a := a) t (by simpa using e)
  exact ⟨b, by simpa using h1, h2⟩
end
end Sx
namespace Sx
open PySem PySem.W PySem.Calls PyProof.Rows
noncomputable def DictE (h : Heap) (d : Addr) (es : Array DictEntry) (ep : Nat) : Prop := ∃ o, h.get? d = some o /\ o.ExactDict /\ o.data = .dict es ep
theorem DictE.at {h h' : Heap} {d : Addr} {es : Array DictEntry} {ep : Nat} (x : DictE h d es ep) (k : ∀ o, h.get? d = some o -> h'.get? d = some o) : DictE h' d es ep := let ⟨o, e, r⟩ := x; ⟨o, k o e, r⟩
theorem DictE.lt {h : Heap} {d : Addr} {es : Array DictEntry} {ep : Nat} (x : DictE h d es ep) : d < h.objs.size := let ⟨_, e, _⟩ := x; Heap.lt_size e
theorem DictE.ty {s : Shared} {d : Addr} {es : Array DictEntry} {ep : Nat} (x : DictE s.heap d es ep) : s.TypeIs (.ref d) "dict" := let ⟨o, e, c, _⟩ := x; ⟨o, e, c.1⟩
section
variable {prog : Program} {w : World} {A : Around} {E : Value -> Shared -> Prop} {s : Shared} {d it : Addr} {es : Array DictEntry} {ep i : Nat}
theorem iter_dictE {Q : Value -> Shared -> Prop} (lo : (d == sysModules) = false) (hm : DictE s.heap d es ep)
  (hQ : Q (.ref s.heap.objs.size) { s with heap := s.heap.push { cls := .type "dict_keyiterator", data := .fields #[.ref d, .int 0 0, .int es.size 0, .int ep 0] } }) : wpAny (model prog w) A (pyIter (.ref d)) Q E s := by
 refine gz9 fun _ bk0 => ?_
 obtain ⟨o, ho, hc, hd⟩ := id hm
 refine bk0 ?_
 have T := hm.ty
 refine wpAny_pyIter_slot T F.slot_dict_iter (wpAny_call_entry F.slot_dict_iter T F.entry_dict_iter ?_ (F.args_dict_iter_1 _))
 unfold Builtin.«dict.__iter__» Builtin.Dict.dictSlotNone
 refine wpAny_bind (wpAny_bind (wpAny_notOrdered_dict T ?_))
 show wpAny _ _ (pure (Value.ref d)) _ _ s
 refine wpAny_pure ?_
 show wpAny _ _ (Builtin.Dict.showsAll d >>= _) _ _ s
 unfold Builtin.Dict.showsAll
 rw [if_neg (by rw [lo]; exact Bool.false_ne_true)]
 refine wpAny_bind (wpAny_pure (wpAny_bind (wpAny_dictEntries ho hd (wpAny_bind (wpAny_dictEpoch ho hd ?_)))))
 refine wpAny_bind (wpAny_newObj_type (wpAny_pure ⟨_, rfl, "dict_keyiterator", _, ⟨_, Heap.get?_push_size _ rfl, rfl⟩, F.slot_dict_keyiterator_next.lookup, ?_⟩))
 simpa [rawInt] using hQ
theorem next_dictE {Q : Option Value -> Shared -> Prop} {e : DictEntry} (hit : s.heap.IsKeyIter it d i es.size ep) (hm : DictE s.heap d es ep) (hx : es[i]? = some e)
  (hQ : ∀ h', h'.IsKeyIter it d (i + 1) es.size ep -> Heap.SameBut it s.heap h' -> Q (some e.key) { s with heap := h' }) : wpAny (model prog w) A (pyNext (.ref it)) Q E s := by
 refine gz9 fun _ bk0 => ?_
 obtain ⟨o, ho, hc, hd⟩ := id hit
 obtain ⟨od, hod, hcd, hdd⟩ := id hm
 obtain ⟨hlt, he⟩ := Array.getElem?_eq_some_iff.mp hx
 refine bk0 ?_
 unfold pyNext
 refine wpAny_bind (wpAny_attempt (wpAny_callSpecial?_slot (name := Str.ofString "__next__") hit.typeIs F.slot_dict_keyiterator_next (wpAny_call_entry F.slot_dict_keyiterator_next hit.typeIs F.entry_dict_keyiterator_next ?_ (F.args_dict_keyiterator_next_1 _))))
 refine wpAny_bind (wpAny_pure (wpAny_bind (wpAny_bind ?_)))
 first | refine wpAny_bind (wpAny_typeNameOfWhole_keyiter hit.typeIs (wpAny_pure ?_)) | refine wpAny_bind (wpAny_typeNameOf_keyiter hit.typeIs (wpAny_pure ?_))
 refine wpAny_bind (wpAny_fieldsOf ho hd ?_)
 simp only [show Builtin.Dict_items.ownsTuple "dict_keyiterator" = false by decide, Bool.false_eq_true, if_false]
 show wpAny _ _ (if (Value.ref d == Value.none) = true then _ else _) _ _ s
 rw [if_neg (show ¬ ((Value.ref d == Value.none) = true) from Bool.false_ne_true)]
 refine wpAny_bind (wpAny_pure (wpAny_bind (wpAny_dictEntries hod hdd ?_)))
 rw [if_neg (by simp)]
 refine wpAny_bind (wpAny_pure (wpAny_bind (wpAny_dictEpoch hod hdd ?_)))
 rw [if_neg (by simp)]
 refine wpAny_pure ?_
 simp only [show ¬ ((i : Int) < 0) from by (first | lia | omega), if_false, Int.toNat_natCast, Array.getElem?_eq_getElem hlt]
 refine wpAny_bind ?_
 first | refine wpAny_bind (wpAny_typeNameOfWhole_keyiter hit.typeIs (wpAny_pure ?_)) | refine wpAny_bind (wpAny_typeNameOf_keyiter hit.typeIs (wpAny_pure ?_))
 refine wpAny_bind (wpAny_isOneOf_keyiter hit.typeIs ?_)
 show wpAny _ _ (setField (.ref it) 1 (rawInt ((i : Int) + 1)) >>= _) _ _ s
 refine wpAny_bind (wpAny_setField ho hd (by simp) ?_)
 have hit' : (s.heap.update it (Obj.mapFields (·.setIfInBounds 1 (rawInt ((i : Int) + 1))))).IsKeyIter it d (i + 1) es.size ep :=
  ⟨_, Heap.get?_update_self _ ho (Obj.isFreed_of_fields (Obj.data_mapFields hd _)), (Obj.cls_mapFields ..).trans hc, by rw [Obj.data_mapFields hd]; simp [rawInt]⟩
 refine wpAny_bind (wpAny_holding (wpAny_bind (wpAny_isOneOf_keyiter (s := { s with heap := s.heap.update it (Obj.mapFields (·.setIfInBounds 1 (rawInt ((i : Int) + 1)))) }) hit'.typeIs ?_)))
 show wpAny _ _ (pure es[i].key) _ _ _
 refine wpAny_pure (wpAny_pure ⟨_, rfl, wpAny_pure ?_⟩)
 rw [he]
 exact hQ _ hit' (Heap.SameBut.update ..)
theorem end_dictE {Q : Option Value -> Shared -> Prop} (hh : A.handled = none) (hit : s.heap.IsKeyIter it d i es.size ep) (hm : DictE s.heap d es ep) (hx : es.size <= i)
  (hQ : ∀ h', Heap.ExtBut it s.heap h' -> Q none { s with heap := h' }) : wpAny (model prog w) A (pyNext (.ref it)) Q E s := by
 refine gz9 fun _ bk0 => ?_
 obtain ⟨o, ho, hc, hd⟩ := id hit
 obtain ⟨od, hod, hcd, hdd⟩ := id hm
 refine bk0 ?_
 unfold pyNext
 refine wpAny_bind (wpAny_attempt (wpAny_callSpecial?_slot (name := Str.ofString "__next__") hit.typeIs F.slot_dict_keyiterator_next (wpAny_call_entry F.slot_dict_keyiterator_next hit.typeIs F.entry_dict_keyiterator_next ?_ (F.args_dict_keyiterator_next_1 _))))
 refine wpAny_bind (wpAny_pure (wpAny_bind (wpAny_bind ?_)))
 first | refine wpAny_bind (wpAny_typeNameOfWhole_keyiter hit.typeIs (wpAny_pure ?_)) | refine wpAny_bind (wpAny_typeNameOf_keyiter hit.typeIs (wpAny_pure ?_))
 refine wpAny_bind (wpAny_fieldsOf ho hd ?_)
 simp only [show Builtin.Dict_items.ownsTuple "dict_keyiterator" = false by decide, Bool.false_eq_true, if_false]
 show wpAny _ _ (if (Value.ref d == Value.none) = true then _ else _) _ _ s
 rw [if_neg (show ¬ ((Value.ref d == Value.none) = true) from Bool.false_ne_true)]
 refine wpAny_bind (wpAny_pure (wpAny_bind (wpAny_dictEntries hod hdd ?_)))
 rw [if_neg (by simp)]
 refine wpAny_bind (wpAny_pure (wpAny_bind (wpAny_dictEpoch hod hdd ?_)))
 rw [if_neg (by simp)]
 refine wpAny_pure ?_
 simp only [show ¬ ((i : Int) < 0) from by (first | lia | omega), if_false, Int.toNat_natCast, Array.getElem?_eq_none hx]
 refine wpAny_bind ?_
 first | refine wpAny_bind (wpAny_typeNameOfWhole_keyiter hit.typeIs (wpAny_pure ?_)) | refine wpAny_bind (wpAny_typeNameOf_keyiter hit.typeIs (wpAny_pure ?_))
 show wpAny _ _ (setField (.ref it) 0 .none >>= _) _ _ s
 refine wpAny_bind (wpAny_setField ho hd (by simp) ?_)
 show wpAny _ _ (newExc (.type "StopIteration") [] >>= _) _ _ _
 refine wpAny_bind ?_
 simp only [newExc, newTuple]
 refine wpAny_bind (wpAny_newObj_type ?_ (by size_fits))
 refine wpAny_bind (m := firstArgMember _ _) (wpAny_of_eq (a := Value.none) (by first | rfl | (simp only [firstArgMember]; rfl)) ?_)
 refine wpAny_newObj_type ?_ (by size_fits)
 simp only [raiseNew]
 refine wpAny_bind (wpAny_handled ?_)
 rw [show A.in1.handled = none from hh]
 refine wpAny_bind (wpAny_pure (wpAny_throw ?_))
 refine wpAny_bind (wpAny_isInstance (T := "StopIteration") (b := true) ⟨_, Heap.get?_push_size _ rfl, rfl⟩ isSubtype_stop ?_)
 exact wpAny_pure (hQ _ (((Heap.SameBut.update ..).extBut.push _).push _))
end
theorem walks_dictE {prog : Program} {w : World} {A : Around} (hh : A.handled = none) (I d : Addr) (hne : d ≠ I) (es : Array DictEntry) (ep : Nat) :
  Walks prog w A I [I, d] [I] es.size (fun i v => ∃ e, es[i]? = some e /\ v = e.key) (fun i h => h.IsKeyIter I d i es.size ep /\ DictE h d es ep) where
 sub := fun b hb => by simp at hb; simp [hb]
 frame := fun _ _ _ st hk => ⟨st.1.at fun o e => hk I (by simp) o e, st.2.at fun o e => hk d (by simp) o e⟩
 item := fun i s Q E hi st hQ => by
  refine next_dictE (e := es[i]) st.1 st.2 (by simp [hi]) fun h' hit' hs' => ?_
  exact hQ _ h' s.toks ⟨_, by simp [hi], rfl⟩ ⟨hit', st.2.at fun o e => hs'.extBut d o hne e⟩ fun b o hb e => hs'.extBut b o (fun h => hb (by simp [h])) e
 done := fun s Q E st hQ => end_dictE hh st.1 st.2 (Nat.le_refl _) fun h' he' => hQ h' s.toks fun b o hb e => he' b o (fun h => hb (by simp [h])) e
 self := fun _ _ _ _ st hQ => wpAny_pyIter_keyiter st.1 hQ
theorem src_dictE {prog : Program} {w : World} {d : Addr} {es : Array DictEntry} {ep : Nat} (lo : (d == sysModules) = false) :
  KdlSrc prog w "dict" d d es.size (fun i v => ∃ e, es[i]? = some e /\ v = e.key) (fun h => DictE h d es ep) where
 type := fun _ hm => hm.ty
 there := fun _ hm => ⟨hm.lt, hm.lt⟩
 keep := fun _ _ hm hk => hm.at fun o e => hk d (.inl rfl) o e
 notList := by decide
 notTuple := by decide
 hint := fun _ _ _ _ hm hq => kdl_hint_dict hm.ty hq
 iter := fun _ _ hh hm => ⟨_, _, (fun _ _ hq => iter_dictE lo hm hq), walks_dictE hh _ d (Nat.ne_of_lt hm.lt) es ep, ⟨⟨_, Heap.get?_push_size _ rfl, rfl, rfl⟩, hm.at fun _ e => Heap.get?_push_of_some _ e⟩⟩
end Sx
namespace L2
open PySem PySem.Spec PyProof.Rows
noncomputable abbrev TupsH (H : Hp) (rs : List Addr) (ts : List (List Int)) : Prop := Paired (fun r t => H r = some (.tup (t.map V.int)) /\ t ≠ []) rs ts
section
variable {X : Cx} {pins : List (Addr × Obj)} {σ : St} {H : Hp} {s : Shared}
theorem Inv.tupI (I : Inv X pins σ H s) {r : Addr} {t : List Int} (e : H r = some (.tup (t.map V.int))) : Sx.TupI s.heap r t := by
 refine gz9 fun _ bk0 => ?_
 obtain ⟨_, its, rv, o, h1, h2, n, h3⟩ := (show ObjOk X.prog X.w H s.heap r (.tup (t.map V.int)) from I.hok r _ e)
 refine bk0 ?_
 exact ⟨o, its.toArray, n, h1, h2, h3, by simpa using intsAre_of rv⟩
theorem Inv.tupsI (I : Inv X pins σ H s) : ∀ {rs : List Addr} {ts : List (List Int)}, TupsH H rs ts -> Paired (fun r t => Sx.TupI s.heap r t /\ t ≠ []) rs ts
 | _, _, .nil => .nil
 | _, _, .cons h t => .cons ⟨I.tupI h.1, h.2⟩ (I.tupsI t)
theorem vals_refs : ∀ (rs : List Addr), Vals (rs.map V.ref) (rs.map Value.ref)
 | [] => .nil
 | _ :: r => .cons rfl (vals_refs r)
theorem refs_of : ∀ {rs : List Addr} {us : List Value}, Vals (rs.map V.ref) us -> us = rs.map Value.ref
 | [], _, h => by rw [List.map_nil] at h; cases h; rfl
 | r :: rs, _, h => by
  rw [List.map_cons] at h
  cases h with
  | cons h1 h2 => rw [refs_of h2, List.map_cons]; cases h1; rfl
end
section
variable {X : Cx}
end
end L2
namespace Mt
noncomputable def lo (a b : Int) : Int := if b < a then b else a
noncomputable def hi (a b : Int) : Int := if b > a then b else a
noncomputable abbrev Tri := Int × Int × Int
noncomputable def bad (m a b : Int) : Prop := a < 0 \/ m <= a \/ b < 0 \/ m <= b \/ a = b
instance (m a b : Int) : Decidable (bad m a b) := by unfold bad; infer_instance
noncomputable def tri (t : Tri) : List Int := [t.1, t.2.1, t.2.2]
noncomputable def key (t : Tri) : List Int := [lo t.1 t.2.1, hi t.1 t.2.1]
noncomputable def row (t : Tri) : List Int := key t ++ [t.2.2]
inductive Res | bad | twice | good
 deriving DecidableEq
noncomputable def scan (m : Int) : List Tri -> List (List Int) -> Res
 | [], _ => .good
 | t :: r, seen => if bad m t.1 t.2.1 then .bad else if seen.any (fun k => decide (k = key t)) = true then .twice else scan m r (seen ++ [key t])
theorem scan_cons (m : Int) (t : Tri) (r : List Tri) (seen : List (List Int)) : scan m (t :: r) seen = if bad m t.1 t.2.1 then .bad else if seen.any (fun k => decide (k = key t)) = true then .twice else scan m r (seen ++ [key t]) := rfl
theorem scan_good {m : Int} : ∀ {T : List Tri} {seen : List (List Int)}, scan m T seen = .good -> seen.Nodup -> (seen ++ T.map key).Nodup /\ ∀ t ∈ T, ¬ bad m t.1 t.2.1
 | [], seen, _, hn => ⟨by simpa using hn, fun t ht => nomatch ht⟩
 | t :: r, seen, h, hn => by
  unfold scan at h
  by_cases hb : bad m t.1 t.2.1
  ·rw [if_pos hb] at h; cases h
  ·rw [if_neg hb] at h
   by_cases hk : seen.any (fun k => decide (k = key t)) = true
   ·rw [if_pos hk] at h; cases h
   ·rw [if_neg hk] at h
    have hk' : key t ∉ seen := fun hm => hk (List.any_eq_true.mpr ⟨_, hm, decide_eq_true rfl⟩)
    have hn' : (seen ++ [key t]).Nodup := by
     rw [List.nodup_append]
     refine ⟨hn, by simp, fun a ha b hb' => ?_⟩
     rw [List.mem_singleton] at hb'
     subst hb'
     exact fun e => hk' (e ▸ ha)
    obtain ⟨h1, h2⟩ := scan_good h hn'
    refine ⟨by simpa using h1, fun u hu => ?_⟩
    rcases List.mem_cons.mp hu with rfl | hu
    ·exact hb
    ·exact h2 u hu
theorem perm_sorted_eq {α : Type} {R : α -> α -> Prop} (anti : ∀ a b, R a b -> R b a -> a = b) : ∀ {l m : List α}, l.Perm m -> l.Pairwise R -> m.Pairwise R -> l = m
 | [], m, h, _, _ => by rw [List.nil_perm.mp h]
 | a :: l, [], h, _, _ => by have := h.length_eq; simp at this
 | a :: l, b :: m, h, hl, hm => by
  rw [List.pairwise_cons] at hl hm
  have e : a = b := by
   have ha : a ∈ b :: m := h.mem_iff.mp (.head _)
   have hb : b ∈ a :: l := h.mem_iff.mpr (.head _)
   rcases List.mem_cons.mp ha with e | ha
   ·exact e
   ·rcases List.mem_cons.mp hb with e | hb
    ·exact e.symm
    ·exact anti a b (hl.1 b hb) (hm.1 a ha)
  subst e
  rw [perm_sorted_eq anti (List.Perm.cons_inv h) hl.2 hm.2]
theorem sorted_eq {l m : List (List Int)} (h : l.Perm m) (hl : l.Pairwise fun a b => HT.lexLt b a = false) (hm : m.Pairwise fun a b => HT.lexLt b a = false) : l = m :=
 perm_sorted_eq (fun a b h1 h2 => (Sx.lex_tot b a h1 h2).symm) h hl hm
theorem key_range {m : Int} {t : Tri} (h : ¬ bad m t.1 t.2.1) : 0 <= lo t.1 t.2.1 /\ lo t.1 t.2.1 < hi t.1 t.2.1 /\ hi t.1 t.2.1 < m := by
 unfold bad at h
 unfold lo hi
 split <;> split <;> (first | lia | omega)
end Mt
namespace L2
open PySem PySem.Spec PyProof.Rows
noncomputable def Xc (X : Cx) (pins : List (Addr × Obj)) (scope : Scope) (cl : List (Str × Addr)) (C : Addr) (N : List Str) (s : Shared) (H : Hp) (fp : List Addr) : Cx where
 prog := X.prog
 w := X.w
 K := X.K
 mg := X.mg
 base := X.base
 A := X.A
 N := N
 s₀ := s
 H₀ := H
 env := compEnvC scope cl C X.env
 outer := X.stack
 stack := X.stack
 ex := fp
 fn := fun x => (cl.lookup x).isNone
 calm := X.calm
 pn := X.pn ++ pins
 xe := fun _ _ => False
noncomputable def σC (own : Nat) (js : List Nat) (σ : St) : St := List.replicate own none ++ js.map fun j => (σ[j]?).getD none
structure Caps (X : Cx) (scope : Scope) (cl : List (Str × Addr)) (own caps : List Str) (js : List Nat) : Prop where
 clos : closureFor scope X.env = pure cl
 sub : ∀ x c, cl.lookup x = some c -> X.env.cells.lookup x = some c
 kind : scope.kind = .function
 nocell : ∀ y ∈ scope.names, y.2 ≠ .cell
 names : ∀ y ∈ scope.names, y.2 = .local -> scope.names.lookup y.1 = some .local
 has : ∀ x, ((relabel scope X.env).names.lookup x = some .cell \/ (relabel scope X.env).names.lookup x = some .free) -> ∃ c, cl.lookup x = some c
 capl : caps.length = js.length
 cap : ∀ (i : Nat) (x : Str), caps[i]? = some x -> ∃ j : Nat, js[i]? = some j /\ X.N[j]? = some x /\ X.env.scope.names.lookup x = some .cell /\ (cl.lookup x).isSome = true /\ (relabel scope X.env).names.lookup x = some .cell
section
variable {X : Cx} {pins : List (Addr × Obj)} {σ : St} {H : Hp} {s : Shared} {scope : Scope} {cl : List (Str × Addr)} {own caps : List Str} {js : List Nat}
theorem Inv.offC {C : Addr} {h' : Heap} {t' : Nat} (I : Inv X pins σ H s) (f : FpOk X pins H C) (hs : Heap.SameBut C s.heap h') : Inv X pins σ H { s with heap := h', toks := t' } := by
 refine gz9 fun _ bk0 => ?_
 obtain ⟨f0, f1, f2, f3, f4, f5⟩ := f
 refine bk0 ?_
 exact I.turned (fun b o hb e => (hs.2 b hb).trans e) f0 f1 f3 f4 f5
theorem xc_ok {fp : List Addr} {C : Addr} {H1 : Hp} (I : Inv X pins σ H1 s) (K : Caps X scope cl own caps js) (hC : s.heap.objs.size <= C) (hf : ∀ b ∈ fp, FpOk X pins H1 b) (ho : ∀ b ∈ fp, ∃ o, s.heap.get? b = some o) :
  (Xc X pins scope cl C (own ++ caps) s H1 fp).Ok := by
 refine ⟨I.ok.mod, K.kind, I.ok.glob, I.ok.blt, hC, fun x y c h1 h2 => I.ok.inj x y c (K.sub x c h1) (K.sub y c h2), fun x hx => K.has x hx, fun x c h1 h2 => ?_, I.ok.hd, I.ok.frames, .inl rfl, fun b hb => ?_, I.bs, Nat.le_trans I.ok.bsz I.sz, fun b o e hb => ?_, fun b hb hm => ?_, I.stack, I.stkFree⟩
 ·have h1 : (cl.lookup x).isNone = true := h1
  have h2 : cl.lookup x = some c := h2
  rw [h2] at h1; cases h1
 ·obtain ⟨o, e⟩ := ho b hb
  refine ⟨fun z => ?_, fun x c h z => (hf b hb).2.2.2.2.1 x c (K.sub x c h) z⟩
  have : b < C := Nat.lt_of_lt_of_le (Heap.lt_size e) hC
  rw [z] at this
  exact absurd this (Nat.lt_irrefl _)
 ·rcases (hf b hb).2.2.2.1 with z | z
  ·exact I.ok.noex b o e z
  ·exact absurd (Nat.lt_of_lt_of_le (Heap.lt_size e) (Nat.le_trans I.ok.bsz z)) (Nat.lt_irrefl _)
 ·rcases List.mem_cons.mp (I.stkSub b hm) with z | z
  ·exact (hf b hb).2.1 z
  ·exact (hf b hb).2.2.1 z
theorem xc_inv {fp : List Addr} {D C : Addr} {H1 : Hp} {s4 : Shared} {mC : Str -> Option Value} (I : Inv X pins σ H1 s) (K : Caps X scope cl own caps js) (hC : s.heap.objs.size <= C) (hD : s.heap.objs.size <= D) (hDC : D ≠ C)
  (hf : ∀ b ∈ fp, FpOk X pins H1 b) (ho : ∀ b ∈ fp, ∃ o, s.heap.get? b = some o) (h4 : ∃ h' tk, s4 = { s with heap := h', toks := tk }) (k4 : ∀ b o, s.heap.get? b = some o -> s4.heap.get? b = some o) (hn : s4.heap.Ns C mC)
  (hl : s4.heap.get? D = some { cls := .type "list", data := .seq #[] 0 }) : Inv (Xc X pins scope cl C (own ++ caps) s H1 fp) [] (σC own.length js σ) (upd H1 D (.lst [])) s4 := by
 obtain ⟨h', tk, rfl⟩ := h4
 have hfr : H1 D = none := I.hok.fresh hD
 have hlen : (σC own.length js σ).length = (own ++ caps).length := by
  unfold σC
  rw [List.length_append, List.length_append, List.length_replicate, List.length_map, K.capl]
 have celK : ∀ c v, s.heap.IsCell c v -> h'.IsCell c v := fun c v ⟨o, e, d⟩ => ⟨o, k4 c o e, d⟩
 have cold : ∀ x c, cl.lookup x = some c -> c < s.heap.objs.size := fun x c e => by
  obtain ⟨v, z⟩ := I.cell x c (K.sub x c e)
  exact z.lt
 refine ⟨xc_ok I K hC hf ho, rfl, I.bare, Un.laid k4 hD hfr, ⟨mC, hn, fun i x v e1 e2 e3 => ?_⟩, fun x c e => ?_, ?_, fun x c e => ?_, fun p hp => ?_, I.hok.laid k4 hD ?_, hlen⟩
 ·have hi : own.length <= i := by
   by_cases hi : i < own.length
   ·exfalso
    unfold σC at e2
    rw [List.getElem?_append_left (by rw [List.length_replicate]; exact hi), List.getElem?_replicate, if_pos hi] at e2
    cases e2
   ·(first | lia | omega)
  obtain ⟨k, rfl⟩ : ∃ k, i = own.length + k := ⟨i - own.length, by (first | lia | omega)⟩
  have e1 : (own ++ caps)[own.length + k]? = some x := e1
  rw [List.getElem?_append_right (by (first | lia | omega)), Nat.add_sub_cancel_left] at e1
  refine gz9 fun _ bk0 => ?_
  obtain ⟨j, j1, j2, j3, j4, j5⟩ := K.cap k x e1
  refine bk0 ?_
  unfold σC at e2
  rw [List.getElem?_append_right (by rw [List.length_replicate]; (first | lia | omega)), List.length_replicate, Nat.add_sub_cancel_left, List.getElem?_map, j1] at e2
  have e2 : (σ[j]?).getD none = some v := Option.some.inj e2
  have e4 : σ[j]? = some (some v) := by
   cases q : σ[j]? with
   | none => rw [q] at e2; cases e2
   | some y => rw [q] at e2; exact congrArg some e2
  refine gz9 fun _ bk0 => ?_
  obtain ⟨m, _, hl'⟩ := I.loc
  obtain ⟨u, ru, lk⟩ := hl' j x v j2 e4 (.inr (.inl j3))
  refine bk0 ?_
  refine ⟨u, ru, ?_⟩
  rcases lk with ⟨hk, _⟩ | ⟨_, c, hc, hcell⟩
  ·have hk : X.env.scope.names.lookup x = some .local := hk
   rw [j3] at hk; cases hk
  ·obtain ⟨c', hc'⟩ := Option.isSome_iff_exists.mp j4
   have := K.sub x c' hc'
   rw [hc] at this; cases this
   exact .inr ⟨.inl j5, c, hc', celK _ _ hcell⟩
 ·obtain ⟨v, z⟩ := I.cell x c (K.sub x c e)
  exact ⟨v, celK _ _ z⟩
 ·show upd H1 D (.lst []) C = none
  rw [upd_ne (Ne.symm hDC)]
  exact I.hok.fresh hC
 ·rw [upd_ne (Nat.ne_of_lt (Nat.lt_of_lt_of_le (cold x c e) hD))]
  exact I.freeC x c (K.sub x c e)
 ·have hp : p ∈ X.pn ++ pins := by
   have : p ∈ (X.pn ++ pins) ++ [] := hp
   simpa using this
  refine gz9 fun _ bk0 => ?_
  obtain ⟨e, n, ne, nf, d⟩ := I.pin p hp
  refine bk0 ?_
  have hlt := Heap.lt_size e
  refine ⟨k4 _ _ e, by rw [upd_ne (Nat.ne_of_lt (Nat.lt_of_lt_of_le hlt hD))]; exact n, Nat.ne_of_lt (Nat.lt_of_lt_of_le hlt hC), fun hm => ?_, d⟩
  rcases List.mem_cons.mp (I.stkSub _ hm) with z | z
  ·exact ne z
  ·exact nf z
 ·exact ⟨Nat.zero_le _, [], 0, .nil, hl⟩
theorem xc_back {fp : List Addr} {C : Addr} {N : List Str} {H1 H' : Hp} {σ' : St} {pl : List (Addr × Obj)} {s' : Shared} (I : Inv X pins σ H1 s) (hf : ∀ b ∈ fp, FpOk X pins H1 b) (J : Inv (Xc X pins scope cl C N s H1 fp) pl σ' H' s') : Inv X pins σ H' s' :=
 I.call' J.os J.base J.hok J.bare fun b hb => ⟨(hf b hb).2.2.2.1, (hf b hb).2.1, (hf b hb).2.2.2.2.1, (hf b hb).2.2.2.2.2⟩
end
noncomputable def tTurns (J : It) (g : TG) (tt : TT) (te : TE) (σ0 : St) (D : Addr) (Qd : Hp -> Prop) (H1 : Hp) : Prop :=
 ∃ W : Nat -> Nat -> List V -> St -> Hp -> Prop, (∃ m, W 0 m [] σ0 (upd H1 D (.lst []))) /\ ∀ i m ys σ1 H2, W i m ys σ1 H2 -> H2 D = some (.lst ys) ∧
  ((J.stop i H2 /\ Qd H2) \/ (J.go i H2 /\ ys.length < sizeLine /\ ∀ x H3, J.yld i H2 x H3 -> g x σ1 H3 fun σ2 H4 => tt σ2 H4 fun c H5 =>
   if c = true then te σ2 H5 fun y H6 => H6 D = some (.lst ys) /\ ∃ m', m' < m /\ W (i + 1) m' (ys ++ [y]) σ2 (upd H6 D (.lst (ys ++ [y]))) else ∃ m', m' < m /\ W (i + 1) m' ys σ2 H5))
noncomputable def PTs (X : Cx) (ifs : List Expr) (t : TT) : Prop :=
 ∀ (pins : List (Addr × Obj)) (s : Shared) (σ : St) (H : Hp) (Q : Bool -> Hp -> Prop), Inv X pins σ H s -> t σ H Q →
  wpAny (model X.prog X.w) X.A (forIn ifs true fun c r => if r = true then do let ok <- isTrue c X.env (eval c X.env); pure (ForInStep.yield ok) else pure (ForInStep.yield r)) (TP X pins σ Q) X.xe s
noncomputable def tYes : TT := fun _ H Q => Q true H
theorem pts_nil {X : Cx} : PTs X [] tYes := fun _ _ _ H _ I h => wpAny_tests_nil ⟨H, I, h⟩
theorem pts_one {X : Cx} {c : Expr} {t : TT} (h : PT X c t) : PTs X [c] t := fun pins s σ H Q I hw => wpAny_tests_one (h pins s σ H Q I hw)
section
variable {X : Cx} {pins : List (Addr × Obj)} {σ : St} {H : Hp} {s : Shared} {scope : Scope} {cl : List (Str × Addr)} {own caps : List Str} {js : List Nat}
variable {tg iter elt : Expr} {ifs : List Expr} {pos : Pos} {g : TG} {tt : TT} {te : TE}
theorem comp_loop {J : It} {fp : List Addr} {it D C : Addr} {tn : Nat -> Heap -> Prop} {H1 : Hp} {σ0 : St} {Qd : Hp -> Prop} {RR : Result -> Shared -> Prop} {s4 : Shared}
  (hc : X.calm = true) (T : Turn X.prog X.w X.K tg J fp it tn)
  (hg : PG (Xc X pins scope cl C (own ++ caps) s H1 fp) tg g) (ht : PTs (Xc X pins scope cl C (own ++ caps) s H1 fp) ifs tt) (he : PE (Xc X pins scope cl C (own ++ caps) s H1 fp) elt te)
  (hf : ∀ b ∈ fp, FpOk X pins H1 b)
  (J0 : Inv (Xc X pins scope cl C (own ++ caps) s H1 fp) [] σ0 (upd H1 D (.lst [])) s4) (st0 : tn 0 s4.heap) (hfD : ∀ b ∈ fp, b ≠ D)
  (turns : tTurns J g tt te σ0 D Qd H1)
  (fin : ∀ σ' H' s', Inv (Xc X pins scope cl C (own ++ caps) s H1 fp) [] σ' H' s' -> Qd H' -> RR (.ok .next) s') :
  codeAny (model X.prog X.w) X.A (.compLoop (.ListComp elt [⟨tg, iter, ifs, 0⟩] scope pos) 0 (.ref it) (.ref D) (compEnvC scope cl C X.env)) RR s4 := by
 refine gz9 fun _ bk0 => ?_
 obtain ⟨W, ⟨m0, w0⟩, turn⟩ := turns
 refine bk0 ?_
 have stat : ∀ {H' : Hp}, (∀ b ∈ fp, H' b = none) -> ∀ b ∈ fp, FpOk (Xc X pins scope cl C (own ++ caps) s H1 fp) [] H' b := fun {H'} hn b hb => by
  refine ⟨hn b hb, (J0.ok.exf b hb).1, J0.ok.exfs b hb, .inl hb, fun x c e => (J0.ok.exf b hb).2 x c e, fun p hp => ?_⟩
  have hp : p ∈ X.pn ++ pins := by
   have : p ∈ (X.pn ++ pins) ++ [] := hp
   simpa using this
  exact (hf b hb).2.2.2.2.2 p hp
 refine codeAny_loop rfl (fun n s' => ∃ i ys σ' H', Inv (Xc X pins scope cl C (own ++ caps) s H1 fp) [] σ' H' s' /\ tn i s'.heap /\ (∀ b ∈ fp, H' b = none) /\ W i n ys σ' H') (fun n s' hI => ?_) m0
  ⟨0, [], _, _, J0, st0, fun b hb => by rw [upd_ne (hfD b hb)]; exact (hf b hb).1, w0⟩
 refine gz9 fun _ bk0 => ?_
 obtain ⟨i, ys, σ2, H2, I2, st, fr, w2⟩ := hI
 refine bk0 ?_
 show wpAny _ X.A ((compTurn (.ListComp elt [⟨tg, iter, ifs, 0⟩] scope pos) 0 (.ref it) (.ref D) (compEnvC scope cl C X.env)).onRaise (fun x => do noteFrame x (compEnvC scope cl C X.env); theTreesLotGoes x)) _ _ s'
 refine wpAny_noted (wpAny_noRaise ?_)
 rw [compTurn_list]
 obtain ⟨hD, alt⟩ := turn i n ys σ2 H2 w2
 rcases alt with ⟨stop, qd⟩ | ⟨go, hz, step⟩
 ·refine wpAny_bind (wpAny_standAt (wpAny_bind (thn (T.done (Xc X pins scope cl C (own ++ caps) s H1 fp) rfl rfl rfl hc i [] s' σ2 H2 (fun _ _ => False) I2 (stat fr) st stop) fun r s5 pk0 => ?_)))
  obtain ⟨hr, I5⟩ := pk0
  subst hr
  exact wpAny_pure (fin _ _ _ I5 qd)
 ·refine wpAny_bind (wpAny_standAt (wpAny_bind (thn (T.item (Xc X pins scope cl C (own ++ caps) s H1 fp) rfl rfl rfl hc i [] s' σ2 H2 (fun _ _ => False) I2 (stat fr) st go) fun r s5 pk0 => ?_)))
  obtain ⟨u, hr, h5⟩ := pk0
  subst hr
  refine wpAny_bind (thn h5 fun _ s6 pk0 => ?_)
  refine gz9 fun _ bk0 => ?_
  obtain ⟨x, H6, I6, r6, y6, st6, fr6⟩ := pk0
  refine bk0 ?_
  have I6' := I6.pinned (stat fr6) (T.obj _ _ st6)
  refine wpAny_bind (thn (hg _ s6 σ2 H6 x u _ I6' r6 (step x H6 y6)) fun _ s7 pk0 => ?_)
  refine gz9 fun _ bk0 => ?_
  obtain ⟨σ7, H7, I7, q7⟩ := pk0
  refine bk0 ?_
  refine wpAny_bind (thn (ht _ s7 σ7 H7 _ I7 q7) fun ok s8 pk0 => ?_)
  obtain ⟨H8, I8, q8⟩ := pk0
  have again : ∀ {H9 : Hp} {ys' : List V} {m : Nat} {s9 : Shared}, Inv (Xc X pins scope cl C (own ++ caps) s H1 fp) ([] ++ pinsAt fp s6.heap) σ7 H9 s9 -> m < n -> W (i + 1) m ys' σ7 H9 →
    ∃ m, m < n /\ ∃ i ys σ' H', Inv (Xc X pins scope cl C (own ++ caps) s H1 fp) [] σ' H' s9 /\ tn i s9.heap /\ (∀ b ∈ fp, H' b = none) /\ W i m ys σ' H' := fun {H9 ys' m s9} I9 hm w9 => by
   refine ⟨m, hm, i + 1, ys', σ7, H9, I9.unpinned, T.keep _ _ _ st6 fun b hb o e => (I9.pin (b, o) (List.mem_append_right _ (List.mem_append_right _ (mem_pinsAt hb e)))).1, fun b hb => ?_, w9⟩
   obtain ⟨o, e, _⟩ := T.obj _ _ st6 b hb
   exact (I9.pin (b, o) (List.mem_append_right _ (List.mem_append_right _ (mem_pinsAt hb e)))).2.1
  cases ok with
  | false =>
   rw [if_neg Bool.false_ne_true] at q8
   obtain ⟨m, hm, w8⟩ := q8
   exact wpAny_pure ⟨rfl, again I8 hm w8⟩
  | true =>
   rw [if_pos rfl] at q8
   refine wpAny_bind (wpAny_bind (thn (he _ s8 σ7 H8 _ I8 q8) fun y s9 pk0 => ?_))
   refine gz9 fun _ bk0 => ?_
   obtain ⟨yv, H9, I9, r9, hD9, m, hm, w9⟩ := pk0
   refine bk0 ?_
   refine wpAny_bind (thn (mt_append _ s9 σ7 H9 (.ref D) [yv] (.ref D) [y] (fun _ H10 => H10 = upd H9 D (.lst (ys ++ [yv]))) I9 rfl (.cons r9 .nil) ⟨D, ys, yv, rfl, rfl, hD9, hz, rfl⟩) fun _ s10 pk0 => ?_)
   refine gz9 fun _ bk0 => ?_
   obtain ⟨_, H10, I10, _, e10⟩ := pk0
   refine bk0 ?_
   subst e10
   exact wpAny_pure (wpAny_pure ⟨rfl, again I10 hm w9⟩)
theorem comp_block {J : It} {fp : List Addr} {it : Addr} {tn : Nat -> Heap -> Prop} {H1 : Hp} {Qd : Addr -> Hp -> Prop} {RR : Value -> Addr -> Result -> Shared -> Prop} {E : Value -> Shared -> Prop}
  (hc : X.calm = true) (I : Inv X pins σ H1 s) (K : Caps X scope cl own caps js) (T : Turn X.prog X.w X.K tg J fp it tn) (st0 : tn 0 s.heap) (hf : ∀ b ∈ fp, FpOk X pins H1 b)
  (hg : ∀ C, PG (Xc X pins scope cl C (own ++ caps) s H1 fp) tg g) (ht : ∀ C, PTs (Xc X pins scope cl C (own ++ caps) s H1 fp) ifs tt) (he : ∀ C, PE (Xc X pins scope cl C (own ++ caps) s H1 fp) elt te)
  (turns : ∀ D, H1 D = none -> tTurns J g tt te (σC own.length js σ) D (Qd D) H1)
  (fin : ∀ D C H' s', Inv X pins σ H' s' -> FpOk X pins H' C -> (∃ m, s'.heap.Ns C m) -> Qd D H' -> RR (.ref D) C (.ok .next) s') :
  wpAny (model X.prog X.w) X.A (newList []) (fun acc s₃ => wpAny (model X.prog X.w) X.A (newFunctionEnv scope X.env.globals cl [] X.env.qual none .none (some X.env)) (fun cenv s₄ =>
   codeAny (model X.prog X.w) X.A (.compStart (.ListComp elt [⟨tg, iter, ifs, 0⟩] scope pos) 0 (.ref it) acc { cenv with scope := relabel scope X.env }) (RR acc cenv.locals) s₄) E s₃) E s := by
 have hold : ∀ b ∈ fp, ∃ o, s.heap.get? b = some o := fun b hb => let ⟨o, e, _⟩ := T.obj 0 _ st0 b hb; ⟨o, e⟩
 refine wpAny_newObj_type (wpAny_newFunctionEnv K.nocell (by intro y hy; simp at hy) (fun h₁ hns₁ hsb₁ => ?_) K.kind)
 dsimp only at hns₁ hsb₁ ⊢
 generalize hH2 : s.heap.push { cls := .type "list", dict := none, data := .seq ([] : List Value).toArray } = H2 at hns₁ hsb₁ ⊢
 have hsz : H2.objs.size = s.heap.objs.size + 1 := by rw [<- hH2, Heap.size_push]
 have k4 : ∀ b o, s.heap.get? b = some o -> h₁.get? b = some o := fun b o e => by
  have hlt := Heap.lt_size e
  refine (hsb₁.2 b (Nat.ne_of_lt (hsz ▸ Nat.lt_succ_of_lt hlt))).trans (Heap.get?_push_of_some _ ?_)
  rw [<- hH2]
  exact Heap.get?_push_of_some _ e
 have hlist : h₁.get? s.heap.objs.size = some { cls := .type "list", data := .seq #[] 0 } := by
  refine (hsb₁.2 _ (Nat.ne_of_lt (hsz ▸ Nat.lt_succ_self _))).trans (Heap.get?_push_of_some _ ?_)
  rw [<- hH2]
  exact Heap.get?_push_size _ rfl
 have hfr : H1 s.heap.objs.size = none := I.hok.fresh (Nat.le_refl _)
 have J0 := xc_inv (C := H2.objs.size) (D := s.heap.objs.size) (s4 := { s with heap := h₁, toks := s.toks + ([] : List (Str × Value)).length }) I K (hsz ▸ Nat.le_succ _) (Nat.le_refl _) (Nat.ne_of_lt (hsz ▸ Nat.lt_succ_self _)) hf hold ⟨_, _, rfl⟩ k4 hns₁ hlist
 have hfD : ∀ b ∈ fp, b ≠ s.heap.objs.size := fun b hb z => by
  obtain ⟨o, e⟩ := hold b hb
  have hlt := Heap.lt_size e
  rw [z] at hlt
  exact absurd hlt (Nat.lt_irrefl _)
 have st1 : tn 0 h₁ := T.keep 0 _ _ st0 fun b hb o e => k4 b o e
 have loop : ∀ s₃ : Shared, s₃ = { s with heap := h₁, toks := s.toks + ([] : List (Str × Value)).length } →
   codeAny (model X.prog X.w) X.A (.compLoop (.ListComp elt [⟨tg, iter, ifs, 0⟩] scope pos) 0 (.ref it) (.ref s.heap.objs.size) (compEnvC scope cl H2.objs.size X.env)) (RR (.ref s.heap.objs.size) H2.objs.size) s₃ := by
  rintro s₃ rfl
  refine comp_loop hc T (hg _) (ht _) (he _) hf J0 st1 hfD (turns _ hfr) fun σ' H' s' J' qd => ?_
  have hC : H' H2.objs.size = none := J'.free
  obtain ⟨m, hn, _⟩ := J'.loc
  exact fin _ _ _ _ (xc_back I hf J') (I.fpOk (by (first | lia | omega)) hC) ⟨m, hn⟩ qd
 exact codeAny_compStart_list (loop _ rfl) (T.self _ 0 _ _ _ st1 (loop _ rfl))
noncomputable def tComp (wi : TI) (g : TG) (tt : TT) (te : TE) (own : Nat) (js : List Nat) : TE := fun σ H Q => wi σ H fun J H1 => ∀ D, H1 D = none -> tTurns J g tt te (σC own js σ) D (fun H' => Q (.ref D) H') H1
theorem pe_comp {wi : TI} (hc : X.calm = true) (K : Caps X scope cl own caps js) (hi : PI X tg iter wi)
  (hg : ∀ pins C s H1 fp, PG (Xc X pins scope cl C (own ++ caps) s H1 fp) tg g) (ht : ∀ pins C s H1 fp, PTs (Xc X pins scope cl C (own ++ caps) s H1 fp) ifs tt) (he : ∀ pins C s H1 fp, PE (Xc X pins scope cl C (own ++ caps) s H1 fp) elt te)
  (hs : ∀ x, foldedSetIterable iter X.env x = pure x := by intro _; rfl) : PE X (.ListComp elt [⟨tg, iter, ifs, 0⟩] scope pos) (tComp wi g tt te own.length js) := by
 intro pins s σ H Q I h
 rw [eval_ListComp]
 refine wpAny_comprehension_free (use := none) rfl hs K.clos K.kind K.names (thn (hi pins s σ H _ I h) fun v s1 h1 => thn h1 fun itv s2 h2 => ?_)
 refine gz9 fun _ bk0 => ?_
 obtain ⟨it, fp, tn, J, H1, e, I2, T, st, f, q⟩ := h2
 refine bk0 ?_
 subst e
 refine comp_block (Qd := fun D H' => Q (.ref D) H') (RR := fun acc C => compPost (model X.prog X.w) X.A X.xe none (EP X pins σ Q) acc C) hc I2 K T st f (fun C => hg _ C _ _ _) (fun C => ht _ C _ _ _) (fun C => he _ C _ _ _) q ?_
 intro D C H' s' I' fC ⟨m, hn⟩ qd
 exact ⟨m, hn, fun h' hs' => ⟨.ref D, H', I'.offC (t' := s'.toks) fC hs', rfl, qd⟩⟩
noncomputable def tCompSet (i : Nat) (wi : TI) (g : TG) (tt : TT) (te : TE) (own : Nat) (js : List Nat) : TS := fun D σ H => wi σ H fun J H1 => ∀ d, H1 d = none -> tTurns J g tt te (σC own js σ) d (fun H' => D.nx (σ.set i (some (.ref d))) H') H1
theorem ps_comp {wi : TI} {i : Nat} {y : Str} {py spos : Pos} (hc : X.calm = true) (K : Caps X scope cl own caps js) (hi : PI X tg iter wi)
  (hg : ∀ pins C s H1 fp, PG (Xc X pins scope cl C (own ++ caps) s H1 fp) tg g) (ht : ∀ pins C s H1 fp, PTs (Xc X pins scope cl C (own ++ caps) s H1 fp) ifs tt) (he : ∀ pins C s H1 fp, PE (Xc X pins scope cl C (own ++ caps) s H1 fp) elt te)
  (hN : X.N.Nodup) (hy : X.N[i]? = some y) (hyl : X.env.scope.names.lookup y = some .local)
  (hsw : swapsWith (.ListComp elt [⟨tg, iter, ifs, 0⟩] scope pos) (some (.Name y py)) spos.line X.env = pure true)
  (hs : ∀ x, foldedSetIterable iter X.env x = pure x := by intro _; rfl) : PS X (.Assign [.Name y py] (.ListComp elt [⟨tg, iter, ifs, 0⟩] scope pos) spos) (tCompSet i wi g tt te own.length js) := by
 intro pins s σ H D I h
 rw [exec_Assign_Name_used _ _ _ _ hsw]
 refine wpAny_bind (wpAny_standAt (wpAny_bind ?_))
 show wpAny _ X.A (do let _ <- comprehension (.ListComp elt [⟨tg, iter, ifs, 0⟩] scope pos) scope X.env _ (newList []) false (eval iter X.env) (some (assign (.Name y py) X.env))) _ _ s
 refine wpAny_bind (thn (wpAny_comprehension_free (use := some (assign (.Name y py) X.env)) (Q := fun _ s' => SP X pins D .next s') rfl hs K.clos K.kind K.names (thn (hi pins s σ H _ I h) fun v s1 h1 => thn h1 fun itv s2 h2 => ?_)) fun _ s' hq => wpAny_pure (wpAny_pure hq))
 refine gz9 fun _ bk0 => ?_
 obtain ⟨it, fp, tn, J, H1, e, I2, T, st, f, q⟩ := h2
 refine bk0 ?_
 subst e
 refine comp_block (Qd := fun d H' => D.nx (σ.set i (some (.ref d))) H') (RR := fun acc C => compPost (model X.prog X.w) X.A X.xe (some (assign (.Name y py) X.env)) (fun _ s' => SP X pins D .next s') acc C) hc I2 K T st f (fun C => hg _ C _ _ _) (fun C => ht _ C _ _ _) (fun C => he _ C _ _ _) q ?_
 intro d C H' s' I' fC ⟨m, hn⟩ qd
 show wpAny _ X.A (assign (.Name y py) X.env (.ref d)) _ _ _
 refine wpAny_assign_Name (store_ok2 I' hN hy (.inl hyl) (show RelV (.ref d) (.ref d) from rfl) (fun s3 I3 pk0 => ?_) (.inr hyl))
 obtain ⟨a, sb, ha⟩ := pk0
 have hCa : C ≠ a := by
  rcases ha with z | z
  ·rw [z]; exact fC.2.1
  ·exact fun z2 => fC.2.2.2.2.1 y a z z2.symm
 exact ⟨m, hn.sameBut sb hCa, fun h' hs' => ⟨_, H', I3.offC (t' := s3.toks) fC hs', qd⟩⟩
end
end L2
namespace Sx
open PySem PySem.W PyProof.Rows
noncomputable def absI : Value -> Int
 | .int n _ => n
 | _ => 0
theorem ints_abs {vs : List Value} {a : List Int} (h : IntsAre vs a) : vs.map absI = a := by
 induction h with
 | nil => rfl
 | cons n t _ ih => rw [List.map_cons, ih]; rfl
theorem ints_fun {vs : List Value} {a b : List Int} (h : IntsAre vs a) (g : IntsAre vs b) : a = b := (ints_abs h).symm.trans (ints_abs g)
theorem ints_at : ∀ {vs : List Value} {ns : List Int} {i : Nat} {v : Value}, IntsAre vs ns -> vs[i]? = some v -> ∃ t, v = .int (ns.getD i 0) t
 | _, _, _, _, .nil, e => by simp at e
 | _, _, 0, _, .cons n t _, e => by simp at e; subst e; exact ⟨t, rfl⟩
 | _, _, i + 1, v, .cons n t h, e => by
  obtain ⟨t', e'⟩ := ints_at (i := i) (v := v) h (by simpa using e)
  exact ⟨t', by simpa using e'⟩
theorem all_eq : ∀ (t u : List Int), ((List.range (min t.length u.length)).all (fun j => t.getD j 0 == u.getD j 0) && t.length == u.length) = decide (t = u) := by
 intro t u
 rw [Bool.eq_iff_iff, Bool.and_eq_true, List.all_eq_true, beq_iff_eq, decide_eq_true_iff]
 constructor
 ·rintro ⟨h1, h2⟩
  apply List.ext_getElem h2
  intro i hi hj
  have := h1 i (List.mem_range.mpr (by (first | lia | omega)))
  simpa [hi, hj] using this
 ·rintro rfl
  exact ⟨fun i _ => by simp, rfl⟩
theorem eqAt_tups {A : Around} {s : Shared} {a b : Addr} {t u : List Int} (ha : TupI s.heap a t) (hb : TupI s.heap b u) (hu : A.units < cLine) : SeqAt.EqAt A s (.ref a) (.ref b) (decide (t = u)) := by
 refine gz9 fun _ bk0 => ?_
 obtain ⟨oa, ia, na, ea, ca, da, pa⟩ := ha
 obtain ⟨ob, ib, nb, eb, cb, db, pb⟩ := hb
 refine bk0 ?_
 by_cases e : a = b
 ·subst e
  rw [ea] at eb
  cases eb
  rw [da] at db
  injection db with d1 _
  subst d1
  have := ints_fun pa pb
  subst this
  rw [decide_eq_true rfl]
  exact SeqAt.EqAt.same _
 ·have la : ia.size = t.length := by rw [<- pa.length, Array.length_toList]
  have lb : ib.size = u.length := by rw [<- pb.length, Array.length_toList]
  have := SeqAt.RcAt.tuples (A := A) (s := s) (l := a) (b := b) (items := ia) (items2 := ib) (e := fun j => t.getD j 0 == u.getD j 0) ⟨oa, ea, ca, na, da⟩ ⟨ob, eb, cb, nb, db⟩ hu fun j h1 h2 => by
   obtain ⟨t1, e1⟩ := ints_at (i := j) (v := ia[j]) pa (by simp [h1])
   obtain ⟨t2, e2⟩ := ints_at (i := j) (v := ib[j]) pb (by simp [h2])
   rw [e1, e2]
   exact SeqAt.EqAt.int_int _ _ _ _
  rw [la, lb, all_eq] at this
  exact SeqAt.EqAt.of_refs e this
end Sx
namespace L2
open PySem PySem.Spec PyProof.Rows
section
variable {X : Cx}
open Classical in
noncomputable def isT (H : Hp) (t : List Int) : Value -> Bool
 | .ref r => decide (H r = some (.tup (t.map V.int)))
 | _ => false
theorem all_eqL : ∀ (ts us : List (List Int)), ts.length = us.length -> (List.range ts.length).all (fun j => decide (ts.getD j [] = us.getD j [])) = decide (ts = us) := by
 intro ts us hl
 rw [Bool.eq_iff_iff, List.all_eq_true, decide_eq_true_iff]
 constructor
 ·intro h1
  apply List.ext_getElem hl
  intro i hi hj
  have := h1 i (List.mem_range.mpr hi)
  simpa [hi, hj] using this
 ·rintro rfl
  exact fun i _ => by simp
end
end L2
namespace L2
open PySem PySem.Spec PyProof.Rows
theorem yes_of {σ : St} {H : Hp} {A B : Hp -> Prop} (h : A H) : tYes σ H fun c H5 => if c = true then A H5 else B H5 := by
 show if true = true then A H else B H
 rw [if_pos rfl]
 exact h
noncomputable def Nxt (n i : Nat) (Pv : Nat -> List V -> St -> Hp -> Prop) (ys : List V) (σ : St) (H : Hp) : Prop := ∃ m', m' < n - i /\ m' = n - (i + 1) /\ i + 1 <= n /\ Pv (i + 1) ys σ H
theorem Nxt.mk {n i : Nat} {Pv : Nat -> List V -> St -> Hp -> Prop} {ys : List V} {σ : St} {H : Hp} (hi : i < n) (h : Pv (i + 1) ys σ H) : Nxt n i Pv ys σ H := ⟨n - (i + 1), by (first | lia | omega), rfl, hi, h⟩
theorem turns_list {K : W.Frag} {a D : Addr} {xs : List V} {g : TG} {tt : TT} {te : TE} {σ0 : St} {Qd : Hp -> Prop} {H1 : Hp} (Pv : Nat -> List V -> St -> Hp -> Prop) (h0 : Pv 0 [] σ0 (upd H1 D (.lst [])))
  (hD : ∀ i ys σ H, Pv i ys σ H -> H D = some (.lst ys) /\ ys.length < sizeLine /\ SqL K H a xs)
  (hs : ∀ i x ys σ H, xs[i]? = some x -> Pv i ys σ H -> g x σ H fun σ2 H4 => tt σ2 H4 fun c H5 => if c = true then te σ2 H5 fun y H6 => H6 D = some (.lst ys) /\ Nxt xs.length i Pv (ys ++ [y]) σ2 (upd H6 D (.lst (ys ++ [y]))) else Nxt xs.length i Pv ys σ2 H5)
  (hd : ∀ ys σ H, Pv xs.length ys σ H -> Qd H) : tTurns (Itl K a) g tt te σ0 D Qd H1 := by
 refine ⟨fun i m ys σ H => m = xs.length - i /\ i <= xs.length /\ Pv i ys σ H, ⟨xs.length, by simp, Nat.zero_le _, h0⟩, ?_⟩
 rintro i m ys σ H ⟨rfl, hi, p⟩
 obtain ⟨d1, d2, d3⟩ := hD i ys σ H p
 refine ⟨d1, ?_⟩
 by_cases hlt : i < xs.length
 ·refine .inr ⟨⟨xs, xs[i], d3, by simp [hlt]⟩, d2, fun x H3 y => ?_⟩
  obtain ⟨e, y⟩ := y
  subst e
  exact hs i x ys σ _ (y xs d3) p
 ·have e : i = xs.length := by (first | lia | omega)
  subst e
  exact .inl ⟨⟨xs, d3, Nat.le_refl _⟩, hd ys σ H p⟩
theorem turns_range {lo : Int} {n : Nat} {D : Addr} {g : TG} {tt : TT} {te : TE} {σ0 : St} {Qd : Hp -> Prop} {H1 : Hp} (Pv : Nat -> List V -> St -> Hp -> Prop) (h0 : Pv 0 [] σ0 (upd H1 D (.lst [])))
  (hD : ∀ i ys σ H, Pv i ys σ H -> H D = some (.lst ys) /\ ys.length < sizeLine)
  (hs : ∀ i ys σ H, i < n -> Pv i ys σ H -> g (.int (lo + i)) σ H fun σ2 H4 => tt σ2 H4 fun c H5 => if c = true then te σ2 H5 fun y H6 => H6 D = some (.lst ys) /\ Nxt n i Pv (ys ++ [y]) σ2 (upd H6 D (.lst (ys ++ [y]))) else Nxt n i Pv ys σ2 H5)
  (hd : ∀ ys σ H, Pv n ys σ H -> Qd H) : tTurns (Itr lo n) g tt te σ0 D Qd H1 := by
 refine ⟨fun i m ys σ H => m = n - i /\ i <= n /\ Pv i ys σ H, ⟨n, by simp, Nat.zero_le _, h0⟩, ?_⟩
 rintro i m ys σ H ⟨rfl, hi, p⟩
 obtain ⟨d1, d2⟩ := hD i ys σ H p
 refine ⟨d1, ?_⟩
 by_cases hlt : i < n
 ·refine .inr ⟨hlt, d2, fun x H3 y => ?_⟩
  obtain ⟨e, y⟩ := y
  subst e y
  exact hs i ys σ _ hlt p
 ·have e : i = n := by (first | lia | omega)
  subst e
  exact .inl ⟨Nat.le_refl _, hd ys σ H p⟩
theorem paired_zip {α β : Type} {F : α -> β -> Prop} : ∀ {l : List α} {m : List β}, Paired F l m -> ∀ p ∈ l.zip m, F p.1 p.2
 | _, _, .nil, p, hp => by simp at hp
 | _, _, .cons h t, p, hp => by
  rcases List.mem_cons.mp hp with rfl | hp
  ·exact h
  ·exact paired_zip t p hp
theorem zip_paired {α β : Type} {F : α -> β -> Prop} : ∀ {l : List α} {m : List β}, l.length = m.length -> (∀ p ∈ l.zip m, F p.1 p.2) -> Paired F l m
 | [], [], _, _ => .nil
 | [], _ :: _, e, _ => by simp at e
 | _ :: _, [], e, _ => by simp at e
 | a :: l, b :: m, e, h => .cons (h (a, b) (.head _)) (zip_paired (by simpa using e) fun p hp => h p (.tail _ hp))
theorem TupsH.sorted {H : Hp} {rs rs' : List Addr} {ts ts' : List (List Int)} (h : TupsH H rs ts) (S : Sx.Sorted rs ts rs' ts') : TupsH H rs' ts' /\ ts'.Perm ts /\ rs'.length = rs.length := by
 have l1 := Paired.length h
 have e := S.perm.length_eq
 rw [List.length_zip, List.length_zip] at e
 have e2 := S.len
 refine ⟨zip_paired S.len fun p hp => paired_zip h p (S.perm.mem_iff.mp hp), ?_, by (first | lia | omega)⟩
 have q := S.perm.map (·.2)
 rw [List.map_snd_zip (by (first | lia | omega)), List.map_snd_zip (by (first | lia | omega))] at q
 exact q
end L2
namespace L2
open PySem PySem.Spec PyProof.Rows
theorem paired_snoc {α β : Type} {F : α -> β -> Prop} : ∀ {l : List α} {m : List β} {a : α} {b : β}, Paired F l m -> F a b -> Paired F (l ++ [a]) (m ++ [b])
 | _, _, _, _, .nil, h => .cons h .nil
 | _, _, _, _, .cons q t, h => .cons q (paired_snoc t h)
end L2
namespace L2
open PySem PySem.Spec PyProof.Rows
end L2
namespace Sx
open PySem PySem.W PyProof.Rows
noncomputable def LstI (h : Heap) (a : Addr) (t : List Int) : Prop := ∃ its : Array Value, h.IsList a its /\ IntsAre its.toList t
section
variable {A : Around} {s : Shared} {a b : Addr} {t u : List Int}
end
end Sx
namespace L2
open PySem PySem.Spec PyProof.Rows
noncomputable abbrev LsH (H : Hp) (rs : List Addr) (ts : List (List Int)) : Prop := Paired (fun r t => H r = some (.lst (t.map V.int))) rs ts
section
variable {X : Cx} {pins : List (Addr × Obj)} {σ : St} {H : Hp} {s : Shared}
theorem Vals.take' : ∀ {xs : List V} {us : List Value} (k : Nat), Vals xs us -> Vals (xs.take k) (us.take k)
 | _, _, 0, _ => by rw [List.take_zero, List.take_zero]; exact .nil
 | _, _, _ + 1, .nil => .nil
 | _, _, k + 1, .cons r t => .cons r (Vals.take' k t)
theorem Vals.drop' : ∀ {xs : List V} {us : List Value} (k : Nat), Vals xs us -> Vals (xs.drop k) (us.drop k)
 | _, _, 0, h => h
 | _, _, _ + 1, .nil => .nil
 | _, _, k + 1, .cons _ t => Vals.drop' k t
theorem mt_insert : MtM X "list.insert" (fun x vs H Q => ∃ (l : Addr) (xs : List V) (i : Int) (y : V), x = .ref l /\ vs = [.int i, y] /\ H l = some (.lst xs) /\ 0 <= i /\ i <= xs.length /\ xs.length < 1000 /\ Q .non (upd H l (.lst (xs.take i.toNat ++ y :: xs.drop i.toNat)))) := by
 intro pins s σ H x vs v us Q I rx rv h
 refine gz9 fun _ bk0 => ?_
 obtain ⟨l, xs, i, y, rfl, rfl, hH, h0, h1, hz, q⟩ := h
 refine bk0 ?_
 cases rx
 refine gz9 fun _ bk0 => ?_
 obtain ⟨u, w, rfl, ru, rw'⟩ := rv.two
 obtain ⟨t, rfl⟩ := ru
 obtain ⟨z, its, n, r, hl, e⟩ := I.lstM hH
 refine bk0 ?_
 have hf : Builtin.List.listFitsIndex i = true := by
  unfold Builtin.List.listFitsIndex
  first | (simp; (first | lia | omega)) | (rw [Bool.and_eq_true, decide_eq_true_iff, decide_eq_true_iff]; (first | lia | omega))
 refine call_meets PySem.F.slot_list_insert ⟨_, e, rfl⟩ PySem.F.entry_list_insert (PySem.F.args_list_insert_3 _ _ _) (PySem.AutoSeq1.list_insert_list_int_val_1 l its.toArray n i t w (by simp [hf]) (by rw [List.size_toArray]; (first | lia | omega))) ⟨e, ?_⟩
 refine ⟨.non, _, I.lset (its' := its.take i.toNat ++ w :: its.drop i.toNat) hH e ?_ ((Vals.take' _ r).append (.cons rw' (Vals.drop' _ r))) ?_, rfl, q⟩
 ·have e1 : ¬ i < 0 := by (first | lia | omega)
  have e2 : min i.toNat its.length = i.toNat := by (first | lia | omega)
  simp only [e1, if_false, List.size_toArray, e2]
  apply Array.ext'
  simp
  exact List.take_of_length_le (by rw [List.length_drop]; exact Nat.le_refl _)
 ·rw [List.length_append, List.length_cons, List.length_take, List.length_drop, sizeLine_eq]
  (first | lia | omega)
end
end L2
namespace G13
noncomputable abbrev Tri := Int × Int × Int
noncomputable def tied (T : List Tri) (x y : Int) : Prop := ∃ t ∈ T, (t.1 = x /\ t.2.1 = y) \/ (t.1 = y /\ t.2.1 = x)
inductive Reach (T : List Tri) (O : List Int) (x : Int) : Int -> Prop
 | refl : Reach T O x x
 | step {y z : Int} : Reach T O x y -> tied T y z -> z ∉ O -> Reach T O x z
section
variable {T : List Tri} {O : List Int} {x y z m : Int}
noncomputable def pts (m : Int) : List Int := (List.range m.toNat).map fun (i : Nat) => (i : Int)
open Classical in
noncomputable def comp (m : Int) (T : List Tri) (O : List Int) (x : Int) : List Int := (pts m).filter fun y => decide (Reach T O x y)
noncomputable def first (T : List Tri) (O : List Int) (x : Int) : Prop := x ∉ O /\ ∀ y, 0 <= y -> y < x -> y ∉ O -> ¬ Reach T O y x
noncomputable def met (m : Int) (T : List Tri) (O : List Int) (i : Int) (y : Int) : Prop := y ∈ O \/ ∃ x, 0 <= x /\ x < i /\ first T O x /\ y ∈ comp m T O x
noncomputable def good (m : Int) (T : List Tri) : Prop := ∀ t ∈ T, 0 <= t.1 /\ t.1 < m /\ 0 <= t.2.1 /\ t.2.1 < m
open Classical in
noncomputable def firsts (m : Int) (T : List Tri) (O : List Int) (i : Int) : List Int := (pts i).filter fun x => decide (first T O x)
noncomputable def partsTo (m : Int) (T : List Tri) (O : List Int) (i : Int) : List (List Int) := (firsts m T O i).map (comp m T O)
structure Hangs (T : List Tri) (P : List Int) (h : Int) : Prop where
 ex : ∃ O : List Int, (∀ y ∈ P, Reach T O h y) /\ ∀ y ∈ P, ∀ z, tied T y z -> z ∉ O -> z ∈ P
noncomputable def plc : Nat -> List (List Int) -> List (Int × Nat)
 | _, [] => []
 | k, c :: r => c.map (fun y => (y, k)) ++ plc (k + 1) r
end
end G13
namespace Ts
open PySem PyProof.Rows
noncomputable def gallop' : Bool -> Keyed -> Array Keyed -> Nat -> Nat -> Nat -> StateT SortSt Sem (Option Nat) := sortPriv% PySem.Builtin.gallop
noncomputable def mergeLo' : Array Keyed -> Array Keyed -> StateT SortSt Sem (Array Keyed) := sortPriv% PySem.Builtin.mergeLo
noncomputable def mergeHi' : Array Keyed -> Array Keyed -> StateT SortSt Sem (Array Keyed) := sortPriv% PySem.Builtin.mergeHi
section
variable {prog : Program} {w : World} {A : Around} {E : Value -> Shared -> Prop} {s : Shared} {κ : SortKind} {O : KeyOrd} {key : Keyed -> O.α} {Good : Keyed -> Prop}
noncomputable def LtOk (prog : Program) (w : World) (A : Around) (E : Value -> Shared -> Prop) (s : Shared) (κ : SortKind) (O : KeyOrd) (key : Keyed -> O.α) (Good : Keyed -> Prop) : Prop :=
 ∀ x y, Good x -> Good y -> ∀ (Q : Option Bool -> SortSt -> Prop) (st : SortSt), kindOf st = κ -> Q (some (O.blt (key x) (key y))) st -> wpS (model prog w) A E s (lt' x y) Q st
noncomputable def bnd (O : KeyOrd) (key : Keyed -> O.α) (l : Bool) (k x : Keyed) : Bool := if l = true then O.blt (key x) (key k) else !(O.blt (key k) (key x))
theorem elem_ok {arr : Array Keyed} {i : Nat} {x : Keyed} {Q : Keyed -> SortSt -> Prop} {st : SortSt} (hx : arr[i]? = some x) (h : Q x st) : wpS (model prog w) A E s (elem' arr i) Q st := by
 rw [elem'_eq, hx]
 exact wpS_pure h
theorem beyond_ok {l : Bool} {k x : Keyed} {arr : Array Keyed} {i : Nat} {Q : Option Bool -> SortSt -> Prop} {st : SortSt} (L : LtOk prog w A E s κ O key Good) (hk : Good k) (gx : Good x) (hx : arr[i]? = some x) (hst : kindOf st = κ) (h : Q (some (bnd O key l k x)) st) :
  wpS (model prog w) A E s (do let y <- elem' arr i; if l = true then lt' y k else do { let r <- lt' k y; pure (r.map fun z => !z) }) Q st := by
 refine wpS_bind (elem_ok hx ?_)
 unfold bnd at h
 cases l with
 | true =>
  rw [if_pos rfl] at h ⊢
  exact L x k gx hk _ st hst h
 | false =>
  rw [if_neg Bool.false_ne_true] at h ⊢
  exact wpS_bind (L k x hk gx _ st hst (wpS_pure h))
theorem bin_ok {n : Nat} {bb : Nat -> Bool} {st : SortSt} {f : Nat -> Option (Option Nat) × Nat × Nat -> StateT SortSt Sem (ForInStep (Option (Option Nat) × Nat × Nat))} {Q : Option (Option Nat) × Nat × Nat -> SortSt -> Prop}
  (mono : ∀ i j, i <= j -> j < n -> bb j = true -> bb i = true)
  (h1 : ∀ x lo hi (R : ForInStep (Option (Option Nat) × Nat × Nat) -> SortSt -> Prop), hi <= lo -> R (.done (none, lo, hi)) st -> wpS (model prog w) A E s (f x (none, lo, hi)) R st)
  (h2 : ∀ x lo hi (R : ForInStep (Option (Option Nat) × Nat × Nat) -> SortSt -> Prop), lo < hi -> hi <= n -> R (.yield (none, if bb (lo + (hi - lo) / 2) = true then lo + (hi - lo) / 2 + 1 else lo, if bb (lo + (hi - lo) / 2) = true then hi else lo + (hi - lo) / 2)) st -> wpS (model prog w) A E s (f x (none, lo, hi)) R st)
  {lo hi : Nat} (hl : lo <= hi) (hh : hi <= n) (ha : ∀ i, i < lo -> bb i = true) (hb : ∀ i, hi <= i -> i < n -> bb i = false)
  (h : ∀ lo r, r <= n -> (∀ i, i < r -> bb i = true) -> (∀ i, r <= i -> i < n -> bb i = false) -> Q (none, lo, r) st) : wpS (model prog w) A E s (forIn [0:n] (none, lo, hi) f) Q st := by
 refine wpS_forRange (I := fun i c st' => st' = st /\ ∃ lo hi, c = (none, lo, hi) /\ lo <= hi /\ hi <= n /\ hi - lo + i <= n /\ (∀ i, i < lo -> bb i = true) /\ ∀ i, hi <= i -> i < n -> bb i = false) ?_ ?_ ⟨rfl, lo, hi, rfl, hl, hh, by omega, ha, hb⟩
 ·rintro i c st' _ hi' ⟨rfl, lo, hi, rfl, hl, hh, hz, ha, hb⟩
  by_cases e : hi <= lo
  ·obtain rfl : lo = hi := by omega
   exact h1 i lo lo _ e (h lo lo hh ha hb)
  ·refine h2 i lo hi _ (by omega) hh ⟨rfl, _, _, rfl, ?_⟩
   cases q : bb (lo + (hi - lo) / 2) with
   | true =>
    rw [if_pos rfl, if_pos rfl]
    exact ⟨by omega, hh, by omega, fun j hj => mono j _ (by omega) (by omega) q, hb⟩
   | false =>
    rw [if_neg Bool.false_ne_true, if_neg Bool.false_ne_true]
    refine ⟨by omega, by omega, by omega, ha, fun j hj hjn => ?_⟩
    cases z : bb j with
    | false => rfl
    | true => rw [mono _ j hj hjn z] at q; cases q
 ·rintro c st' ⟨rfl, lo, hi, rfl, hl, hh, hz, ha, hb⟩
  obtain rfl : lo = hi := by omega
  exact h lo lo hh ha hb
theorem gallop_ok {l : Bool} {k : Keyed} {arr : Array Keyed} {b n hint : Nat} {Q : Option Nat -> SortSt -> Prop} {st : SortSt} {bb : Nat -> Bool} (L : LtOk prog w A E s κ O key Good) (hk : Good k)
  (hg : ∀ i, i < n -> ∃ x, arr[b + i]? = some x /\ Good x /\ bnd O key l k x = bb i) (mono : ∀ i j, i <= j -> j < n -> bb j = true -> bb i = true) (hh : hint < n) (hst : kindOf st = κ)
  (h : ∀ r, r <= n -> (∀ i, i < r -> bb i = true) -> (∀ i, r <= i -> i < n -> bb i = false) -> Q (some r) st) : wpS (model prog w) A E s (gallop' l k arr b n hint) Q st := by
 have down : ∀ i j, bb i = false -> i <= j -> j < n -> bb j = false := fun i j hi hij hj => by
  cases z : bb j with
  | false => rfl
  | true => rw [mono i j hij hj z] at hi; cases hi
 unfold gallop'
 obtain ⟨x, hx, gx, ex⟩ := hg hint hh
 refine wpS_bind (beyond_ok L hk gx hx hst ?_)
 rw [ex]
 dsimp only
 cases q : bb hint with
 | true =>
  rw [if_pos rfl]
  refine wpS_bind (wpS_mono (wpS_forRange (I := fun i c st' => st' = st /\ ∃ last ofs, c = (none, last, ofs) /\ hint + last < n /\ bb (hint + last) = true /\ last < ofs /\ i + 1 <= ofs)
   (Q := fun c st' => st' = st /\ ∃ last ofs, c = (none, last, ofs) /\ hint + last < n /\ bb (hint + last) = true /\ last < ofs /\ (n - hint <= ofs \/ (hint + ofs < n /\ bb (hint + ofs) = false))) ?_ ?_ ⟨rfl, 0, 1, rfl, hh, q, by omega, by omega⟩) ?_)
  ·rintro i c st' _ hi ⟨rfl, last, ofs, rfl, l1, l2, l3, l4⟩
   dsimp only
   by_cases e : ofs >= n - hint
   ·rw [if_pos e]
    exact wpS_pure ⟨rfl, last, ofs, rfl, l1, l2, l3, .inl e⟩
   ·rw [if_neg e]
    obtain ⟨y, hy, gy, ey⟩ := hg (hint + ofs) (by omega)
    refine wpS_bind (beyond_ok L hk gy hy hst ?_)
    rw [ey]
    dsimp only
    cases z : bb (hint + ofs) with
    | false => exact wpS_pure ⟨rfl, last, ofs, rfl, l1, l2, l3, .inr ⟨by omega, z⟩⟩
    | true => exact wpS_pure ⟨rfl, ofs, 2 * ofs + 1, rfl, by omega, z, by omega, by omega⟩
  ·rintro c st' ⟨rfl, last, ofs, rfl, l1, l2, l3, l4⟩
   exact ⟨rfl, last, ofs, rfl, l1, l2, l3, .inl (by omega)⟩
  ·rintro c st' ⟨rfl, last, ofs, rfl, l1, l2, l3, l4⟩
   dsimp only
   refine wpS_bind (bin_ok (bb := bb) mono ?_ ?_ (by omega) (by omega) (fun i hi => mono i _ (by omega) l1 l2) (fun i hi hin => ?_) fun lo r r1 r2 r3 => ?_)
   ·intro x lo hi R hle hR
    dsimp only
    rw [if_pos hle]
    exact wpS_pure hR
   ·intro x lo hi R hlt hn hR
    dsimp only
    rw [if_neg (by omega)]
    obtain ⟨y, hy, gy, ey⟩ := hg (lo + (hi - lo) / 2) (by omega)
    refine wpS_bind (beyond_ok L hk gy hy hst ?_)
    rw [ey]
    dsimp only
    cases z : bb (lo + (hi - lo) / 2) with
    | false =>
     rw [z] at hR
     exact wpS_pure hR
    | true =>
     rw [z] at hR
     exact wpS_pure hR
   ·rcases l4 with l4 | ⟨l4, l5⟩
    ·omega
    ·exact down (hint + ofs) i l5 (by omega) hin
   ·exact wpS_pure (h r r1 r2 r3)
 | false =>
  rw [if_neg Bool.false_ne_true]
  refine wpS_bind (wpS_mono (wpS_forRange (I := fun i c st' => st' = st /\ ∃ last ofs, c = (none, last, ofs) /\ last <= hint /\ bb (hint - last) = false /\ last < ofs /\ i + 1 <= ofs)
   (Q := fun c st' => st' = st /\ ∃ last ofs, c = (none, last, ofs) /\ last <= hint /\ bb (hint - last) = false /\ last < ofs /\ (hint + 1 <= ofs \/ (ofs <= hint /\ bb (hint - ofs) = true))) ?_ ?_ ⟨rfl, 0, 1, rfl, by omega, q, by omega, by omega⟩) ?_)
  ·rintro i c st' _ hi ⟨rfl, last, ofs, rfl, l1, l2, l3, l4⟩
   dsimp only
   by_cases e : ofs >= hint + 1
   ·rw [if_pos e]
    exact wpS_pure ⟨rfl, last, ofs, rfl, l1, l2, l3, .inl e⟩
   ·rw [if_neg e]
    obtain ⟨y, hy, gy, ey⟩ := hg (hint - ofs) (by omega)
    refine wpS_bind (beyond_ok L hk gy hy hst ?_)
    rw [ey]
    dsimp only
    cases z : bb (hint - ofs) with
    | true => exact wpS_pure ⟨rfl, last, ofs, rfl, l1, l2, l3, .inr ⟨by omega, z⟩⟩
    | false => exact wpS_pure ⟨rfl, ofs, 2 * ofs + 1, rfl, by omega, z, by omega, by omega⟩
  ·rintro c st' ⟨rfl, last, ofs, rfl, l1, l2, l3, l4⟩
   exact ⟨rfl, last, ofs, rfl, l1, l2, l3, .inl (by omega)⟩
  ·rintro c st' ⟨rfl, last, ofs, rfl, l1, l2, l3, l4⟩
   dsimp only
   refine wpS_bind (bin_ok (bb := bb) mono ?_ ?_ (by omega) (by omega) (fun i hi => ?_) (fun i hi hin => down _ i l2 (by omega) hin) fun lo r r1 r2 r3 => ?_)
   ·intro x lo hi R hle hR
    dsimp only
    rw [if_pos hle]
    exact wpS_pure hR
   ·intro x lo hi R hlt hn hR
    dsimp only
    rw [if_neg (by omega)]
    obtain ⟨y, hy, gy, ey⟩ := hg (lo + (hi - lo) / 2) (by omega)
    refine wpS_bind (beyond_ok L hk gy hy hst ?_)
    rw [ey]
    dsimp only
    cases z : bb (lo + (hi - lo) / 2) with
    | false =>
     rw [z] at hR
     exact wpS_pure hR
    | true =>
     rw [z] at hR
     exact wpS_pure hR
   ·rcases l4 with l4 | ⟨l4, l5⟩
    ·omega
    ·exact mono i (hint - ofs) (by omega) (by omega) l5
   ·exact wpS_pure (h r r1 r2 r3)
end
end Ts
namespace Ts
open PySem PyProof.Rows
section
variable {O : KeyOrd} {key : Keyed -> O.α}
noncomputable def Le (O : KeyOrd) (key : Keyed -> O.α) (x y : Keyed) : Prop := O.kle (key x) (key y)
theorem Le.trans {x y z : Keyed} (h : Le O key x y) (k : Le O key y z) : Le O key x z := KeyOrd.kle_trans h k
theorem le_of_lt {x y : Keyed} (h : O.blt (key x) (key y) = true) : Le O key x y := KeyOrd.kle_of_klt h
theorem le_of_nlt {x y : Keyed} (h : O.blt (key x) (key y) = false) : Le O key y x := h
structure Mg (O : KeyOrd) (key : Keyed -> O.α) (al bl : List Keyed) (out : Array Keyed) (ia ib : Nat) : Prop where
 perm : out.toList.Perm (al.take ia ++ bl.take ib)
 srt : out.toList.Pairwise (Le O key)
 ale : ∀ x ∈ out.toList, ∀ y ∈ al.drop ia, Le O key x y
 ble : ∀ x ∈ out.toList, ∀ y ∈ bl.drop ib, Le O key x y
variable {al bl : List Keyed} {out : Array Keyed} {ia ib : Nat}
theorem take_add (l : List Keyed) (i k : Nat) : l.take (i + k) = l.take i ++ (l.drop i).take k := by
 rw [List.take_add]
theorem drop_add' (l : List Keyed) (i k : Nat) : l.drop (i + k) = (l.drop i).drop k := by rw [List.drop_drop]
theorem Mg.app {k : Nat} {more : Array Keyed} (M : Mg O key al bl out ia ib) (sa : al.Pairwise (Le O key)) (hm : more.toList = (al.drop ia).take k) (h : ∀ x ∈ (al.drop ia).take k, ∀ y ∈ bl.drop ib, Le O key x y) : Mg O key al bl (out ++ more) (ia + k) ib := by
 have sd : (al.drop ia).Pairwise (Le O key) := sa.sublist (List.drop_sublist _ _)
 have sp : (al.drop ia).take k ++ (al.drop ia).drop k = al.drop ia := List.take_append_drop _ _
 have sc := sd
 rw [<- sp, List.pairwise_append] at sc
 refine ⟨?_, ?_, fun x hx y hy => ?_, fun x hx y hy => ?_⟩
 ·rw [Array.toList_append, hm, take_add]
  refine (M.perm.append_right _).trans ?_
  rw [List.append_assoc, List.append_assoc]
  exact List.Perm.append_left _ List.perm_append_comm
 ·rw [Array.toList_append, hm, List.pairwise_append]
  exact ⟨M.srt, sc.1, fun x hx y hy => M.ale x hx y (List.mem_of_mem_take hy)⟩
 ·rw [drop_add'] at hy
  rw [Array.toList_append, hm] at hx
  rcases List.mem_append.mp hx with hx | hx
  ·exact M.ale x hx y (List.mem_of_mem_drop hy)
  ·exact sc.2.2 x hx y hy
 ·rw [Array.toList_append, hm] at hx
  rcases List.mem_append.mp hx with hx | hx
  ·exact M.ble x hx y hy
  ·exact h x hx y hy
theorem Mg.swap (M : Mg O key al bl out ia ib) : Mg O key bl al out ib ia := ⟨M.perm.trans List.perm_append_comm, M.srt, M.ble, M.ale⟩
theorem Mg.push {x : Keyed} (M : Mg O key al bl out ia ib) (sa : al.Pairwise (Le O key)) (hx : al[ia]? = some x) (h : ∀ y ∈ bl.drop ib, Le O key x y) : Mg O key al bl (out.push x) (ia + 1) ib := by
 have e : (al.drop ia).take 1 = [x] := by
  obtain ⟨hi, ex⟩ := List.getElem?_eq_some_iff.mp hx
  rw [List.drop_eq_getElem_cons hi, ex]
  rfl
 have := M.app (k := 1) (more := #[x]) sa (by rw [e]) (by rw [e]; intro z hz y hy; rw [List.mem_singleton] at hz; subst hz; exact h y hy)
 rwa [Array.append_singleton] at this
noncomputable def Done (O : KeyOrd) (key : Keyed -> O.α) (al bl : List Keyed) (r : Array Keyed) : Prop := r.toList.Perm (al ++ bl) /\ r.toList.Pairwise (Le O key)
theorem Mg.fin {xs ys : Array Keyed} (M : Mg O key al bl out ia ib) (sa : al.Pairwise (Le O key)) (sb : bl.Pairwise (Le O key)) (hx : xs.toList = al.drop ia) (hy : ys.toList = bl.drop ib) (h : ∀ x ∈ al.drop ia, ∀ y ∈ bl.drop ib, Le O key x y) : Done O key al bl (out ++ xs ++ ys) := by
 constructor
 ·rw [Array.toList_append, Array.toList_append, hx, hy]
  have e1 : al.Perm (al.take ia ++ al.drop ia) := by rw [List.take_append_drop]
  have e2 : bl.Perm (bl.take ib ++ bl.drop ib) := by rw [List.take_append_drop]
  refine ((M.perm.append_right _).append_right _).trans ?_
  refine List.Perm.trans ?_ (e1.append e2).symm
  rw [List.append_assoc, List.append_assoc, List.append_assoc]
  refine List.Perm.append_left _ ?_
  rw [<- List.append_assoc, <- List.append_assoc]
  exact List.Perm.append_right _ List.perm_append_comm
 ·rw [Array.toList_append, Array.toList_append, hx, hy, List.pairwise_append, List.pairwise_append]
  refine ⟨⟨M.srt, sa.sublist (List.drop_sublist _ _), M.ale⟩, sb.sublist (List.drop_sublist _ _), fun x hx y hy => ?_⟩
  rcases List.mem_append.mp hx with hx | hx
  ·exact M.ble x hx y hy
  ·exact h x hx y hy
theorem Done.swap {r : Array Keyed} (D : Done O key bl al r) : Done O key al bl r := ⟨D.1.trans List.perm_append_comm, D.2⟩
theorem ext_drop (a : Array Keyed) (i : Nat) : (a.extract i a.size).toList = a.toList.drop i := by
 rw [Array.toList_extract, List.extract_eq_take_drop]
 rw [List.take_of_length_le (by rw [List.length_drop, Array.length_toList]; exact Nat.le_refl _)]
theorem ext_take (a : Array Keyed) (i k : Nat) : (a.extract i (i + k)).toList = (a.toList.drop i).take k := by
 rw [Array.toList_extract, List.extract_eq_take_drop, Nat.add_sub_cancel_left]
theorem drop_nil {l : List Keyed} {i : Nat} (h : l.length <= i) : ∀ x ∈ l.drop i, False := fun x hx => by
 rw [List.drop_of_length_le h] at hx
 cases hx
theorem drop_at {l : List Keyed} {i : Nat} {x : Keyed} (h : x ∈ l.drop i) : ∃ j, i <= j /\ l[j]? = some x := by
 obtain ⟨j, hj, e⟩ := List.getElem_of_mem h
 rw [List.length_drop] at hj
 refine ⟨i + j, by omega, ?_⟩
 rw [<- e]
 simp
theorem take_at {l : List Keyed} {i k : Nat} {x : Keyed} (h : x ∈ (l.drop i).take k) : ∃ j, j < k /\ l[i + j]? = some x := by
 obtain ⟨j, hj, e⟩ := List.getElem_of_mem h
 rw [List.length_take, List.length_drop] at hj
 refine ⟨j, by omega, ?_⟩
 rw [<- e]
 simp
theorem le_at {l : List Keyed} (sl : l.Pairwise (Le O key)) {i j : Nat} {x y : Keyed} (hx : l[i]? = some x) (hy : l[j]? = some y) (h : i <= j) : Le O key x y := by
 by_cases e : i = j
 ·subst e
  rw [hx] at hy
  cases hy
  exact KeyOrd.kle_refl _
 ·obtain ⟨h1, e1⟩ := List.getElem?_eq_some_iff.mp hx
  obtain ⟨h2, e2⟩ := List.getElem?_eq_some_iff.mp hy
  rw [List.pairwise_iff_getElem] at sl
  have := sl i j h1 h2 (by omega)
  rw [e1, e2] at this
  exact this
end
section
variable {prog : Program} {w : World} {A : Around} {E : Value -> Shared -> Prop} {s : Shared} {κ : SortKind} {O : KeyOrd} {key : Keyed -> O.α} {Good : Keyed -> Prop}
structure Sm (κ : SortKind) (st st' : SortSt) : Prop where
 kind : kindOf st' = κ
 arr : arrOf st' = arrOf st
 pend : pendingOf st' = pendingOf st
 fail : failedOf st' = failedOf st
theorem arr_at {a : Array Keyed} {i : Nat} (h : i < a.size) : ∃ x, a[i]? = some x /\ a.toList[i]? = some x := ⟨a[i], by simp [h], by simp [h]⟩
theorem gal_right {a : Array Keyed} {ia : Nat} {y : Keyed} {Q : Option Nat -> SortSt -> Prop} {st : SortSt} (L : LtOk prog w A E s κ O key Good) (ga : ∀ x ∈ a.toList, Good x) (gy : Good y) (sa : a.toList.Pairwise (Le O key)) (hi : ia < a.size) (hst : kindOf st = κ)
  (h : ∀ k, ia + k <= a.size -> (∀ x ∈ (a.toList.drop ia).take k, Le O key x y) -> (∀ x ∈ a.toList.drop (ia + k), Le O key y x) -> Q (some k) st) : wpS (model prog w) A E s (gallop' false y a ia (a.size - ia) 0) Q st := by
 have at_ : ∀ i, i < a.size - ia -> ∃ x, a[ia + i]? = some x /\ a.toList[ia + i]? = some x := fun i hi => arr_at (by omega)
 have key' : ∀ i, i < a.size - ia -> ∃ x, a[ia + i]? = some x /\ Good x /\ bnd O key false y x = (match a[ia + i]? with | some x => !(O.blt (key y) (key x)) | none => false) := fun i hi => by
  obtain ⟨x, h1, h2⟩ := at_ i hi
  refine ⟨x, h1, ga x (List.mem_of_getElem? h2), ?_⟩
  rw [h1]
  rfl
 refine gallop_ok (bb := fun i => match a[ia + i]? with | some x => !(O.blt (key y) (key x)) | none => false) L gy key' (fun i j hij hj hb => ?_) (by omega) hst fun r r1 r2 r3 => h r (by omega) (fun x hx => ?_) (fun x hx => ?_)
 ·obtain ⟨x, h1, h2⟩ := at_ i (by omega)
  obtain ⟨z, h3, h4⟩ := at_ j hj
  simp only [h1, h3] at hb ⊢
  have lz : Le O key z y := by
   have : O.blt (key y) (key z) = false := by simpa using hb
   exact this
  have : Le O key x y := (le_at sa h2 h4 (by omega)).trans lz
  have : O.blt (key y) (key x) = false := this
  rw [this]; rfl
 ·obtain ⟨j, hj, ej⟩ := take_at hx
  have := r2 j hj
  have e : a[ia + j]? = some x := by simpa using ej
  simp only [e] at this
  have : O.blt (key y) (key x) = false := by simpa using this
  exact this
 ·obtain ⟨j, hj, ej⟩ := drop_at hx
  have hjl : j < a.size := by have := (List.getElem?_eq_some_iff.mp ej).1; simpa using this
  have e : a[ia + (j - ia)]? = some x := by rw [show ia + (j - ia) = j by omega]; simpa using ej
  have := r3 (j - ia) (by omega) (by omega)
  simp only [e] at this
  have : O.blt (key y) (key x) = true := by simpa using this
  exact le_of_lt this
theorem gal_left {b : Array Keyed} {ib : Nat} {x : Keyed} {Q : Option Nat -> SortSt -> Prop} {st : SortSt} (L : LtOk prog w A E s κ O key Good) (gb : ∀ x ∈ b.toList, Good x) (gx : Good x) (sb : b.toList.Pairwise (Le O key)) (hi : ib < b.size) (hst : kindOf st = κ)
  (h : ∀ k, ib + k <= b.size -> (∀ y ∈ (b.toList.drop ib).take k, Le O key y x) -> (∀ y ∈ b.toList.drop (ib + k), Le O key x y) -> Q (some k) st) : wpS (model prog w) A E s (gallop' true x b ib (b.size - ib) 0) Q st := by
 have at_ : ∀ i, i < b.size - ib -> ∃ x, b[ib + i]? = some x /\ b.toList[ib + i]? = some x := fun i hi => arr_at (by omega)
 have key' : ∀ i, i < b.size - ib -> ∃ y, b[ib + i]? = some y /\ Good y /\ bnd O key true x y = (match b[ib + i]? with | some y => O.blt (key y) (key x) | none => false) := fun i hi => by
  obtain ⟨y, h1, h2⟩ := at_ i hi
  refine ⟨y, h1, gb y (List.mem_of_getElem? h2), ?_⟩
  rw [h1]
  rfl
 refine gallop_ok (bb := fun i => match b[ib + i]? with | some y => O.blt (key y) (key x) | none => false) L gx key' (fun i j hij hj hb => ?_) (by omega) hst fun r r1 r2 r3 => h r (by omega) (fun y hy => ?_) (fun y hy => ?_)
 ·obtain ⟨y, h1, h2⟩ := at_ i (by omega)
  obtain ⟨z, h3, h4⟩ := at_ j hj
  simp only [h1, h3] at hb ⊢
  exact KeyOrd.klt_of_kle_of_klt (le_at sb h2 h4 (by omega)) hb
 ·obtain ⟨j, hj, ej⟩ := take_at hy
  have := r2 j hj
  have e : b[ib + j]? = some y := by simpa using ej
  simp only [e] at this
  exact le_of_lt this
 ·obtain ⟨j, hj, ej⟩ := drop_at hy
  have hjl : j < b.size := by have := (List.getElem?_eq_some_iff.mp ej).1; simpa using this
  have e : b[ib + (j - ib)]? = some y := by rw [show ib + (j - ib) = j by omega]; simpa using ej
  have := r3 (j - ib) (by omega) (by omega)
  simp only [e] at this
  exact this
end
end Ts
namespace Ts
open PySem PyProof.Rows
section
variable {prog : Program} {w : World} {A : Around} {E : Value -> Shared -> Prop} {s : Shared} {κ : SortKind} {O : KeyOrd} {key : Keyed -> O.α} {Good : Keyed -> Prop}
structure Cu (O : KeyOrd) (key : Keyed -> O.α) (a b : Array Keyed) (out : Array Keyed) (ia ib : Nat) : Prop where
 mg : Mg O key a.toList b.toList out ia ib
 la : ia + 1 < a.size
 lb : ib < b.size
noncomputable abbrev Fi (O : KeyOrd) (key : Keyed -> O.α) (a b r : Array Keyed) : Prop := Done O key a.toList b.toList r
section
variable {a b out : Array Keyed} {ia ib : Nat}
theorem fin_b (M : Mg O key a.toList b.toList out ia ib) (sa : a.toList.Pairwise (Le O key)) (sb : b.toList.Pairwise (Le O key)) (h : (ib == b.size) = true) : Fi O key a b (out ++ a.extract ia a.size ++ b.extract ib b.size) :=
 M.fin sa sb (ext_drop _ _) (ext_drop _ _) fun _ _ y hy => (drop_nil (by rw [Array.length_toList]; exact Nat.le_of_eq (beq_iff_eq.mp h).symm) y hy).elim
theorem fin_a (M : Mg O key a.toList b.toList out ia ib) (sa : a.toList.Pairwise (Le O key)) (sb : b.toList.Pairwise (Le O key)) (h : (ia == a.size) = true) : Fi O key a b (out ++ a.extract ia a.size ++ b.extract ib b.size) :=
 M.fin sa sb (ext_drop _ _) (ext_drop _ _) fun x hx _ _ => (drop_nil (by rw [Array.length_toList]; exact Nat.le_of_eq (beq_iff_eq.mp h).symm) x hx).elim
theorem fin_last (M : Mg O key a.toList b.toList out ia ib) (sa : a.toList.Pairwise (Le O key)) (sb : b.toList.Pairwise (Le O key)) (hl : ∀ y ∈ b.toList, ∀ x, a.toList[a.size - 1]? = some x -> Le O key y x) (h : (ia + 1 == a.size) = true) :
  Fi O key a b (out ++ b.extract ib b.size ++ a.extract ia a.size) := by
 refine (M.swap.fin sb sa (ext_drop _ _) (ext_drop _ _) fun y hy x hx => ?_).swap
 obtain ⟨j, hj, ej⟩ := drop_at hx
 have hjl : j < a.size := by have := (List.getElem?_eq_some_iff.mp ej).1; simpa using this
 have h := beq_iff_eq.mp h
 exact hl y (List.mem_of_mem_drop hy) x (by rw [show a.size - 1 = j by (first | lia | omega)]; exact ej)
end
theorem ite_ok {α : Type} {c : Prop} [Decidable c] {m1 m2 : StateT SortSt Sem α} {Q : α -> SortSt -> Prop} {st : SortSt} (h1 : c -> wpS (model prog w) A E s m1 Q st) (h2 : ¬ c -> wpS (model prog w) A E s m2 Q st) : wpS (model prog w) A E s (if c then m1 else m2) Q st := by
 by_cases h : c
 ·rw [if_pos h]; exact h1 h
 ·rw [if_neg h]; exact h2 h
theorem ext_zero (a : Array Keyed) (i : Nat) : a.extract i (i + 0) = #[] := by
 apply Array.ext'
 rw [ext_take, List.take_zero]
theorem ne_of_beq {m n : Nat} (h : ¬ (m == n) = true) : m ≠ n := fun z => h (beq_iff_eq.mpr z)
theorem go {G : Prop} (k : ∀ G' : Prop, (G -> G') -> G') : G := k G id
theorem iteT {α : Type} {c : Prop} [Decidable c] {m1 m2 : StateT SortSt Sem α} {Q : α -> SortSt -> Prop} {st : SortSt} (h : c) (h1 : wpS (model prog w) A E s m1 Q st) : wpS (model prog w) A E s (if c then m1 else m2) Q st := by rw [if_pos h]; exact h1
theorem iteF {α : Type} {c : Prop} [Decidable c] {m1 m2 : StateT SortSt Sem α} {Q : α -> SortSt -> Prop} {st : SortSt} (h : ¬ c) (h1 : wpS (model prog w) A E s m2 Q st) : wpS (model prog w) A E s (if c then m1 else m2) Q st := by rw [if_neg h]; exact h1
theorem bindFor {σ β γ : Type} {a b : Nat} {f : Nat -> β -> StateT σ Sem (ForInStep β)} {k : β -> StateT σ Sem γ} {R : γ -> σ -> Prop} {c : β} {st : σ} (I : Nat -> β -> σ -> Prop) (Q : β -> σ -> Prop)
  (step : ∀ (i : Nat) (c : β) (st : σ), a <= i -> i < b -> I i c st -> wpS (model prog w) A E s (f i c) (fun r st' => match r with | ForInStep.done c' => Q c' st' | ForInStep.yield c' => I (i + 1) c' st') st)
  (fin : ∀ (c : β) (st : σ), I (max a b) c st -> Q c st) (h0 : I a c st) (post : ∀ (c : β) (st' : σ), Q c st' -> wpS (model prog w) A E s (k c) R st') : wpS (model prog w) A E s (forIn [a:b] c f >>= k) R st := wpS_bind (wpS_mono (wpS_forRange I step fin h0) post)
theorem ite_two {α : Type} {c : Prop} [Decidable c] {m : Nat -> StateT SortSt Sem α} {x y : Nat} {Q : α -> SortSt -> Prop} {st : SortSt} (h : ∀ z, wpS (model prog w) A E s (m z) Q st) : wpS (model prog w) A E s (if c then m x else m y) Q st := ite_ok (fun _ => h _) (fun _ => h _)
theorem join2 {α : Type} {jp : PUnit -> Array Keyed -> Nat -> StateT SortSt Sem α} {m : StateT SortSt Sem α} {Q : α -> SortSt -> Prop} {st : SortSt} (I : Array Keyed -> Nat -> Prop) (hj : ∀ o i, I o i -> wpS (model prog w) A E s (jp () o i) Q st) (h : (∀ o i, I o i -> wpS (model prog w) A E s (jp () o i) Q st) -> wpS (model prog w) A E s m Q st) : wpS (model prog w) A E s m Q st := h hj
theorem mergeLo_ok {a b : Array Keyed} {st : SortSt} {Q : Array Keyed -> SortSt -> Prop} (L : LtOk prog w A E s κ O key Good) (ga : ∀ x ∈ a.toList, Good x) (gb : ∀ x ∈ b.toList, Good x) (sa : a.toList.Pairwise (Le O key)) (sb : b.toList.Pairwise (Le O key))
  (na : 0 < a.size) (nb : 0 < b.size) (hf : ∀ x, a.toList[0]? = some x -> ∀ y, b.toList[0]? = some y -> Le O key y x) (hl : ∀ y ∈ b.toList, ∀ x, a.toList[a.size - 1]? = some x -> Le O key y x) (hst : kindOf st = κ)
  (h : ∀ r st', Fi O key a b r -> Sm κ st st' -> Q r st') : wpS (model prog w) A E s (mergeLo' a b) Q st := by
 unfold mergeLo'
 refine wpS_bind (wpS_lift (wpAny_rule ⟨rfl, ?_⟩))
 try dsimp -zeta only
 obtain ⟨y0, hy0, ly0⟩ := arr_at nb
 have s0 : Sm κ st st := ⟨hst, rfl, rfl, rfl⟩
 have la0 : ∀ x ∈ a.toList.drop 0, Le O key y0 x := fun x hx => by
  obtain ⟨j, _, ej⟩ := drop_at hx
  obtain ⟨x0, _, lx0⟩ := arr_at na
  exact (hf x0 lx0 y0 ly0).trans (le_at sa lx0 ej (Nat.zero_le _))
 have M0 : Mg O key a.toList b.toList #[y0] 0 1 := by
  have : Mg O key b.toList a.toList #[] 0 0 := ⟨by simp, by simp, fun x hx => (by simp at hx), fun x hx => (by simp at hx)⟩
  have := (this.push sb ly0 la0).swap
  simpa using this
 refine wpS_bind (elem_ok hy0 ?_)
 refine ite_ok (fun e1 => ?_) (fun e1 => ?_)
 ·skip
  exact wpS_pure (h _ _ (fin_b M0 sa sb e1) s0)
 skip
 refine ite_ok (fun e2 => ?_) (fun e2 => ?_)
 ·skip
  exact wpS_pure (h _ _ (fin_last M0 sa sb hl e2) s0)
 skip
 have e1' : 1 ≠ b.size := fun z => e1 (beq_iff_eq.mpr z)
 have e2' : 0 + 1 ≠ a.size := fun z => e2 (beq_iff_eq.mpr z)
 refine wpS_bind (wpS_get ?_)
 refine bindFor
  (I := fun i c st' => Sm κ st st' /\ ∃ out ia ib g, c = (none, out, ia, ib, g) /\ Cu O key a b out ia ib /\ i + 1 <= ia + ib)
  (Q := fun c st' => Sm κ st st' /\ ∃ r out ia ib g, c = (some r, out, ia, ib, g) /\ Fi O key a b r) ?step ?fin ⟨s0, _, _, _, _, rfl, ⟨M0, by (first | lia | omega), by (first | lia | omega)⟩, by (first | lia | omega)⟩ ?post
 case post =>
  intro c st' hh
  refine go fun _ bk0 => ?_
  obtain ⟨s1, r, out, ia, ib, g, rfl, F⟩ := hh
  refine bk0 ?_
  exact wpS_pure (h r st' F s1)
 case fin =>
  intro c st' hh
  refine go fun _ bk0 => ?_
  obtain ⟨s1, out, ia, ib, g, rfl, C, hz⟩ := hh
  refine bk0 ?_
  exfalso
  have := C.la
  have := C.lb
  (first | lia | omega)
 case step =>
  intro i c st' _ _ hh
  refine go fun _ bk0 => ?_
  obtain ⟨s1, out, ia, ib, g, rfl, C, hz⟩ := hh
  refine bk0 ?_
  try dsimp -zeta only
  refine bindFor
   (I := fun _ c st' => Sm κ st st' /\ ∃ out ia ib ac bc, c = (none, out, ia, ib, ac, bc) /\ Cu O key a b out ia ib /\ i + 1 <= ia + ib)
   (Q := fun c st' => Sm κ st st' /\ ((∃ r out ia ib ac bc, c = (some r, out, ia, ib, ac, bc) /\ Fi O key a b r) \/ ∃ out ia ib ac bc, c = (none, out, ia, ib, ac, bc) /\ Cu O key a b out ia ib /\ i + 1 <= ia + ib)) ?step1 ?fin1 ⟨s1, _, _, _, _, _, rfl, C, hz⟩ ?post1
  case fin1 => exact fun c st' h => ⟨h.1, .inr h.2⟩
  case step1 =>
   intro j c st2 _ _ hh
   refine go fun _ bk0 => ?_
   obtain ⟨s2, out, ia, ib, ac, bc, rfl, C, hz⟩ := hh
   refine bk0 ?_
   try dsimp -zeta only
   obtain ⟨y, hy, ly⟩ := arr_at C.lb
   obtain ⟨x, hx, lx⟩ := arr_at (show ia < a.size by have := C.la; (first | lia | omega))
   have la := C.la
   have lb := C.lb
   refine wpS_bind (elem_ok hy (wpS_bind (elem_ok hx (wpS_bind (L y x (gb y (List.mem_of_getElem? ly)) (ga x (List.mem_of_getElem? lx)) _ _ s2.kind ?_)))))
   cases q : O.blt (key y) (key x) with
   | true =>
    try dsimp -zeta only
    refine iteT rfl ?_
    refine wpS_bind (elem_ok hy ?_)
    have M1 := (C.mg.swap.push sb ly fun z hz => by
     obtain ⟨j, hj, ej⟩ := drop_at hz
     exact (le_of_lt q).trans (le_at sa lx ej hj)).swap
    refine ite_ok (fun f1 => ?_) (fun f1 => ?_)
    ·skip
     exact wpS_pure ⟨s2, .inl ⟨_, _, _, _, _, _, rfl, fin_b M1 sa sb f1⟩⟩
    ·skip
     have f1' : ib + 1 ≠ b.size := fun z => f1 (beq_iff_eq.mpr z)
     have C1 : Cu O key a b (out.push y) ia (ib + 1) := ⟨M1, la, by (first | lia | omega)⟩
     first | refine ite_ok (fun _ => ?_) (fun _ => ?_) | split
     ·exact wpS_pure ⟨s2, .inr ⟨_, _, _, _, _, rfl, C1, by (first | lia | omega)⟩⟩
     ·exact wpS_pure ⟨s2, _, _, _, _, _, rfl, C1, by (first | lia | omega)⟩
   | false =>
    try dsimp -zeta only
    refine iteF Bool.false_ne_true ?_
    refine wpS_bind (elem_ok hx ?_)
    have M1 := C.mg.push sa lx fun z hz => by
     obtain ⟨j, hj, ej⟩ := drop_at hz
     exact (le_of_nlt q).trans (le_at sb ly ej hj)
    refine ite_ok (fun f1 => ?_) (fun f1 => ?_)
    ·skip
     exact wpS_pure ⟨s2, .inl ⟨_, _, _, _, _, _, rfl, fin_last M1 sa sb hl f1⟩⟩
    ·skip
     have f1' : ia + 1 + 1 ≠ a.size := fun z => f1 (beq_iff_eq.mpr z)
     have C1 : Cu O key a b (out.push x) (ia + 1) ib := ⟨M1, by (first | lia | omega), lb⟩
     first | refine ite_ok (fun _ => ?_) (fun _ => ?_) | split
     ·exact wpS_pure ⟨s2, .inr ⟨_, _, _, _, _, rfl, C1, by (first | lia | omega)⟩⟩
     ·exact wpS_pure ⟨s2, _, _, _, _, _, rfl, C1, by (first | lia | omega)⟩
  case post1 =>
   intro c st2 hh
   refine go fun _ bk0 => ?_
   obtain ⟨s2, ⟨r, out, ia, ib, ac, bc, rfl, F⟩ | ⟨out, ia, ib, ac, bc, rfl, C, hz⟩⟩ := hh
   all_goals refine bk0 ?_
   ·exact wpS_pure ⟨s2, r, _, _, _, _, rfl, F⟩
   try dsimp -zeta only
   refine wpS_bind (wpS_lift (wpAny_rule ⟨rfl, ?_⟩))
   refine bindFor
    (I := fun j c st' => Sm κ st st' /\ ∃ out ia ib g ac bc, c = (none, out, ia, ib, g, ac, bc) /\ Cu O key a b out ia ib /\ i + 1 + j <= ia + ib)
    (Q := fun c st' => Sm κ st st' /\ ((∃ r out ia ib g ac bc, c = (some r, out, ia, ib, g, ac, bc) /\ Fi O key a b r) \/ ∃ out ia ib g ac bc, c = (none, out, ia, ib, g, ac, bc) /\ Cu O key a b out ia ib /\ i + 2 <= ia + ib)) ?step2 ?fin2 ⟨s2, _, _, _, _, _, _, rfl, C, hz⟩ ?post2
   case fin2 =>
    intro c st' hh
    refine go fun _ bk0 => ?_
    obtain ⟨s3, out, ia, ib, g, ac, bc, rfl, C, hz⟩ := hh
    refine bk0 ?_
    exact ⟨s3, .inr ⟨_, _, _, _, _, _, rfl, C, by (first | lia | omega)⟩⟩
   case post2 =>
    intro c st3 hh
    refine go fun _ bk0 => ?_
    obtain ⟨s3, ⟨r, out, ia, ib, g, ac, bc, rfl, F⟩ | ⟨out, ia, ib, g, ac, bc, rfl, C, hz⟩⟩ := hh
    all_goals refine bk0 ?_
    ·exact wpS_pure ⟨s3, r, _, _, _, _, rfl, F⟩
    ·dsimp only
     refine wpS_bind (wpS_modify ?_)
     exact wpS_pure ⟨⟨s3.kind, s3.arr, s3.pend, s3.fail⟩, _, _, _, _, rfl, C, by (first | lia | omega)⟩
   case step2 =>
    intro j c st3 _ _ hh
    refine go fun _ bk0 => ?_
    obtain ⟨s3, out, ia, ib, g, ac, bc, rfl, C, hz⟩ := hh
    refine bk0 ?_
    obtain ⟨y, hy, ly⟩ := arr_at C.lb
    have la := C.la
    have lb := C.lb
    have gy := gb y (List.mem_of_getElem? ly)
    try dsimp -zeta only
    extract_lets u0 u1 u2 u3 u4 u5 u6 u7 u8 u9 u10 v1 jp v2
    refine ite_two (m := jp ()) (fun mg => ?_)
    dsimp -zeta only [jp]
    clear jp v2
    refine wpS_bind (wpS_modify ?_)
    refine wpS_bind (elem_ok hy ?_)
    refine wpS_bind (gal_right L ga gy sa (show ia < a.size from Nat.lt_of_succ_lt la) s3.kind fun k hk k1 k2 => ?_)
    try dsimp -zeta only
    extract_lets ac2 jp2 out2 ia2
    have M1 : Mg O key a.toList b.toList (out ++ a.extract ia (ia + k)) (ia + k) ib := C.mg.app sa (ext_take _ _ _) fun x hx z hz => by
     obtain ⟨j, hj, ej⟩ := drop_at hz
     exact (k1 x hx).trans (le_at sb ly ej hj)
    refine join2 (jp := jp2) (fun o i' => Mg O key a.toList b.toList o i' ib /\ (∀ x ∈ a.toList.drop i', Le O key y x) /\ i' + 1 < a.size /\ ia <= i') (fun o i' hI => ?rest) (fun hj => ?here)
    case here =>
     refine ite_ok (fun hk0 => ite_ok (fun f1 => wpS_pure ⟨⟨s3.kind, s3.arr, s3.pend, s3.fail⟩, .inl ⟨_, _, _, _, _, _, _, rfl, fin_last M1 sa sb hl f1⟩⟩) (fun f1 => ite_ok (fun f2 => wpS_pure ⟨⟨s3.kind, s3.arr, s3.pend, s3.fail⟩, .inl ⟨_, _, _, _, _, _, _, rfl, fin_a M1 sa sb f2⟩⟩) (fun f2 => hj _ _ ⟨M1, k2, ?_, Nat.le_add_right _ _⟩))) (fun hk0 => ?_)
     ·have := ne_of_beq f1
      have := ne_of_beq f2
      show ia + k + 1 < a.size
      have h1 : ia2 = ia + k := rfl
      (first | lia | omega)
     ·obtain rfl : k = 0 := by (first | lia | omega)
      rw [ext_zero, Array.append_empty] at M1
      exact hj _ _ ⟨M1, k2, la, Nat.le_refl _⟩
    clear hk k1 k2 M1
    dsimp -zeta only [jp2]
    clear jp2 out2 ia2
    obtain ⟨MI, kI, lI, leI⟩ := hI
    have M2 := (MI.swap.push sb ly kI).swap
    refine wpS_bind (elem_ok hy ?_)
    try dsimp -zeta only
    extract_lets out3
    refine ite_ok (fun f3 => wpS_pure ⟨⟨s3.kind, s3.arr, s3.pend, s3.fail⟩, .inl ⟨_, _, _, _, _, _, _, rfl, fin_b M2 sa sb f3⟩⟩) (fun f3 => ?_)
    have lb1 : ib + 1 < b.size := by
     have := ne_of_beq f3
     have h1 : v1 = ib + 1 := rfl
     (first | lia | omega)
    obtain ⟨x, hx, lx⟩ := arr_at (Nat.lt_of_succ_lt lI)
    have gx := ga x (List.mem_of_getElem? lx)
    refine wpS_bind (elem_ok hx ?_)
    refine wpS_bind (gal_left L gb gx sb lb1 s3.kind fun k' hk' k1' k2' => ?_)
    try dsimp -zeta only
    extract_lets bc3 jp3 out4 ib4
    have M3 := (M2.swap.app (k := k') (more := b.extract (ib + 1) (ib + 1 + k')) sb (ext_take _ _ _) fun z hz u hu => by
     obtain ⟨j, hj, ej⟩ := drop_at hu
     exact (k1' z hz).trans (le_at sa lx ej hj)).swap
    refine join2 (jp := jp3) (fun o i2 => Mg O key a.toList b.toList o i' i2 /\ (∀ y ∈ b.toList.drop i2, Le O key x y) /\ i2 < b.size /\ ib + 1 <= i2) (fun o i2 hI => ?rest2) (fun hj => ?here2)
    case here2 =>
     refine ite_ok (fun h1 => ite_ok (fun f4 => wpS_pure ⟨⟨s3.kind, s3.arr, s3.pend, s3.fail⟩, .inl ⟨_, _, _, _, _, _, _, rfl, fin_b M3 sa sb f4⟩⟩) (fun f4 => hj _ _ ⟨M3, k2', ?_, Nat.le_add_right _ _⟩)) (fun h1 => ?_)
     ·have := ne_of_beq f4
      have h1 : ib4 = ib + 1 + k' := rfl
      show ib + 1 + k' < b.size
      (first | lia | omega)
     ·obtain rfl : k' = 0 := by (first | lia | omega)
      rw [ext_zero, Array.append_empty] at M3
      exact hj _ _ ⟨M3, k2', lb1, Nat.le_refl _⟩
    clear hk' k1' k2' M3 M2
    dsimp -zeta only [jp3]
    clear jp3 out4 ib4
    obtain ⟨MI2, kI2, lI2, leI2⟩ := hI
    have M4 := MI2.push sa lx kI2
    refine wpS_bind (elem_ok hx ?_)
    try dsimp -zeta only
    extract_lets out5 ia5
    refine ite_ok (fun f5 => wpS_pure ⟨⟨s3.kind, s3.arr, s3.pend, s3.fail⟩, .inl ⟨_, _, _, _, _, _, _, rfl, fin_last M4 sa sb hl f5⟩⟩) (fun f5 => ?_)
    have f5' : i' + 1 + 1 ≠ a.size := ne_of_beq f5
    have C5 : Cu O key a b (o.push x) (i' + 1) i2 := ⟨M4, by (first | lia | omega), lI2⟩
    exact ite_ok (fun _ => wpS_pure ⟨⟨s3.kind, s3.arr, s3.pend, s3.fail⟩, .inr ⟨_, _, _, _, _, _, rfl, C5, by (first | lia | omega)⟩⟩) (fun _ => wpS_pure ⟨⟨s3.kind, s3.arr, s3.pend, s3.fail⟩, _, _, _, _, _, _, rfl, C5, by (first | lia | omega)⟩)
end
end Ts
namespace Ts
open PySem PyProof.Rows
noncomputable def rv (O : KeyOrd) : KeyOrd where
 α := O.α
 blt := fun x y => O.blt y x
 irrefl := O.irrefl
 trans := fun a b c h1 h2 => O.trans c b a h2 h1
 negTrans := fun a b c h => (O.negTrans c b a h).symm
 total := fun a b h1 h2 => O.total a b h2 h1
section
variable {O : KeyOrd} {key : Keyed -> O.α}
noncomputable abbrev Mh (O : KeyOrd) (key : Keyed -> O.α) (a b out : Array Keyed) (na nb : Nat) : Prop := Mg (rv O) key a.toList.reverse b.toList.reverse out (a.size - na) (b.size - nb)
theorem srt_rev {l : List Keyed} (h : l.Pairwise (Le O key)) : l.reverse.Pairwise (Le (rv O) key) := by
 rw [List.pairwise_reverse]
 exact h
theorem rev_drop (l : List Keyed) {n : Nat} (h : n <= l.length) : l.reverse.drop (l.length - n) = (l.take n).reverse := by
 rw [List.drop_reverse]
 congr 2
 (first | lia | omega)
variable {a b out : Array Keyed} {na nb : Nat}
theorem mem_rest {x : Keyed} (h : na <= a.size) (hx : x ∈ a.toList.reverse.drop (a.size - na)) : x ∈ a.toList.take na := by
 have := rev_drop a.toList (n := na) (by rw [Array.length_toList]; exact h)
 rw [Array.length_toList] at this
 rw [this] at hx
 exact List.mem_reverse.mp hx
theorem Mh.push {x : Keyed} (M : Mh O key a b out na nb) (sa : a.toList.Pairwise (Le O key)) (h0 : 0 < na) (h1 : na <= a.size) (h2 : nb <= b.size) (hx : a.toList[na - 1]? = some x) (h : ∀ y ∈ b.toList.take nb, Le O key y x) : Mh O key a b (out.push x) (na - 1) nb := by
 have e : a.toList.reverse[a.size - na]? = some x := by
  rw [List.getElem?_reverse (by rw [Array.length_toList]; (first | lia | omega)), Array.length_toList]
  rw [show a.size - 1 - (a.size - na) = na - 1 by (first | lia | omega)]
  exact hx
 have := Mg.push M (srt_rev sa) e fun y hy => h y (mem_rest h2 hy)
 show Mg (rv O) key _ _ _ (a.size - (na - 1)) _
 rw [show a.size - (na - 1) = a.size - na + 1 by (first | lia | omega)]
 exact this
theorem ext_mid (a : Array Keyed) (m n : Nat) : (a.extract m n).toList = (a.toList.take n).drop m := by
 rw [Array.toList_extract, List.extract_eq_take_drop, List.drop_take]
theorem Mh.app {m : Nat} (M : Mh O key a b out na nb) (sa : a.toList.Pairwise (Le O key)) (hm : m <= na) (h1 : na <= a.size) (h2 : nb <= b.size) (h : ∀ x ∈ (a.toList.take na).drop m, ∀ y ∈ b.toList.take nb, Le O key y x) : Mh O key a b (out ++ (a.extract m na).reverse) m nb := by
 have e : (a.toList.reverse.drop (a.size - na)).take (na - m) = ((a.toList.take na).drop m).reverse := by
  have := rev_drop a.toList (n := na) (by rw [Array.length_toList]; exact h1)
  rw [Array.length_toList] at this
  rw [this, List.take_reverse]
  congr 2
  rw [List.length_take, Array.length_toList]
  (first | lia | omega)
 have := Mg.app (k := na - m) (more := (a.extract m na).reverse) M (srt_rev sa) (by rw [Array.toList_reverse, ext_mid, e]) (by rw [e]; exact fun x hx y hy => h x (List.mem_reverse.mp hx) y (mem_rest h2 hy))
 show Mg (rv O) key _ _ _ (a.size - m) _
 rw [show a.size - m = a.size - na + (na - m) by (first | lia | omega)]
 exact this
theorem done_rv {al bl : List Keyed} {r x : Array Keyed} (D : Done (rv O) key al.reverse bl.reverse r) (e : x.toList = r.toList.reverse) : Done O key al bl x := by
 constructor
 ·rw [e]
  exact (List.reverse_perm _).trans (D.1.trans ((List.reverse_perm al).append (List.reverse_perm bl)))
 ·rw [e, List.pairwise_reverse]
  exact D.2
theorem Mh.finB (M : Mh O key a b out na nb) (sa : a.toList.Pairwise (Le O key)) (sb : b.toList.Pairwise (Le O key)) (h1 : na <= a.size) (h2 : nb <= b.size) (h : ∀ x ∈ a.toList.take na, ∀ y ∈ b.toList.take nb, Le O key y x) :
  Done O key a.toList b.toList (b.extract 0 nb ++ a.extract 0 na ++ out.reverse) := by
 have ra := rev_drop a.toList (n := na) (by rw [Array.length_toList]; exact h1)
 have rb := rev_drop b.toList (n := nb) (by rw [Array.length_toList]; exact h2)
 rw [Array.length_toList] at ra rb
 refine done_rv (Mg.fin (xs := (a.toList.take na).reverse.toArray) (ys := (b.toList.take nb).reverse.toArray) M (srt_rev sa) (srt_rev sb) ra.symm rb.symm fun x hx y hy => h x (mem_rest h1 hx) y (mem_rest h2 hy)) ?_
 simp only [Array.toList_append, Array.toList_reverse, ext_mid, List.drop_zero, List.reverse_append, List.reverse_reverse, List.append_assoc]
theorem Mh.swap (M : Mh O key a b out na nb) : Mh O key b a out nb na := Mg.swap M
theorem Mh.finA (M : Mh O key a b out na nb) (sa : a.toList.Pairwise (Le O key)) (sb : b.toList.Pairwise (Le O key)) (h1 : na <= a.size) (h2 : nb <= b.size) (h : (na == 0) = true \/ (nb == 0) = true) :
  Done O key a.toList b.toList (a.extract 0 na ++ b.extract 0 nb ++ out.reverse) := by
 refine (M.swap.finB sb sa h2 h1 fun y hy x hx => ?_).swap
 exfalso
 rcases h with h | h
 ·rw [beq_iff_eq.mp h] at hx; simp at hx
 ·rw [beq_iff_eq.mp h] at hy; simp at hy
end
section
variable {prog : Program} {w : World} {A : Around} {E : Value -> Shared -> Prop} {s : Shared} {κ : SortKind} {O : KeyOrd} {key : Keyed -> O.α} {Good : Keyed -> Prop}
theorem gal_r {a : Array Keyed} {b n hint : Nat} {y : Keyed} {Q : Option Nat -> SortSt -> Prop} {st : SortSt} (L : LtOk prog w A E s κ O key Good) (gy : Good y) (ga : ∀ i, i < n -> ∃ x, a[b + i]? = some x /\ Good x)
  (sa : ∀ i j x z, i <= j -> j < n -> a[b + i]? = some x -> a[b + j]? = some z -> Le O key x z) (hi : hint < n) (hst : kindOf st = κ)
  (h : ∀ r, r <= n -> (∀ i x, i < r -> a[b + i]? = some x -> Le O key x y) -> (∀ i x, r <= i -> i < n -> a[b + i]? = some x -> O.blt (key y) (key x) = true) -> Q (some r) st) : wpS (model prog w) A E s (gallop' false y a b n hint) Q st := by
 have key' : ∀ i, i < n -> ∃ x, a[b + i]? = some x /\ Good x /\ bnd O key false y x = (match a[b + i]? with | some x => !(O.blt (key y) (key x)) | none => false) := fun i hi => by
  obtain ⟨x, h1, h2⟩ := ga i hi
  refine ⟨x, h1, h2, ?_⟩
  rw [h1]
  rfl
 refine gallop_ok (bb := fun i => match a[b + i]? with | some x => !(O.blt (key y) (key x)) | none => false) L gy key' (fun i j hij hj hb => ?_) hi hst fun r r1 r2 r3 => h r r1 (fun i x hi ei => ?_) (fun i x hi hn ei => ?_)
 ·obtain ⟨x, h1, _⟩ := ga i (by (first | lia | omega))
  obtain ⟨z, h3, _⟩ := ga j hj
  simp only [h1, h3] at hb ⊢
  have lz : Le O key z y := by
   have : O.blt (key y) (key z) = false := by simpa using hb
   exact this
  have : Le O key x y := (sa i j x z hij hj h1 h3).trans lz
  have : O.blt (key y) (key x) = false := this
  rw [this]; rfl
 ·have := r2 i hi
  simp only [ei] at this
  have : O.blt (key y) (key x) = false := by simpa using this
  exact this
 ·have := r3 i hi hn
  simp only [ei] at this
  simpa using this
theorem gal_l {a : Array Keyed} {b n hint : Nat} {y : Keyed} {Q : Option Nat -> SortSt -> Prop} {st : SortSt} (L : LtOk prog w A E s κ O key Good) (gy : Good y) (ga : ∀ i, i < n -> ∃ x, a[b + i]? = some x /\ Good x)
  (sa : ∀ i j x z, i <= j -> j < n -> a[b + i]? = some x -> a[b + j]? = some z -> Le O key x z) (hi : hint < n) (hst : kindOf st = κ)
  (h : ∀ r, r <= n -> (∀ i x, i < r -> a[b + i]? = some x -> O.blt (key x) (key y) = true) -> (∀ i x, r <= i -> i < n -> a[b + i]? = some x -> Le O key y x) -> Q (some r) st) : wpS (model prog w) A E s (gallop' true y a b n hint) Q st := by
 have key' : ∀ i, i < n -> ∃ x, a[b + i]? = some x /\ Good x /\ bnd O key true y x = (match a[b + i]? with | some x => O.blt (key x) (key y) | none => false) := fun i hi => by
  obtain ⟨x, h1, h2⟩ := ga i hi
  refine ⟨x, h1, h2, ?_⟩
  rw [h1]
  rfl
 refine gallop_ok (bb := fun i => match a[b + i]? with | some x => O.blt (key x) (key y) | none => false) L gy key' (fun i j hij hj hb => ?_) hi hst fun r r1 r2 r3 => h r r1 (fun i x hi ei => ?_) (fun i x hi hn ei => ?_)
 ·obtain ⟨x, h1, _⟩ := ga i (by (first | lia | omega))
  obtain ⟨z, h3, _⟩ := ga j hj
  simp only [h1, h3] at hb ⊢
  exact KeyOrd.klt_of_kle_of_klt (sa i j x z hij hj h1 h3) hb
 ·have := r2 i hi
  simp only [ei] at this
  exact this
 ·have := r3 i hi hn
  simp only [ei] at this
  exact this
structure Ch (O : KeyOrd) (key : Keyed -> O.α) (a b out : Array Keyed) (na nb : Nat) : Prop where
 mg : Mh O key a b out na nb
 a0 : 0 < na
 a1 : na <= a.size
 b0 : 1 < nb
 b1 : nb <= b.size
theorem mid_at {l : List Keyed} {m n : Nat} {x : Keyed} (h : x ∈ (l.take n).drop m) : ∃ j, m <= j /\ j < n /\ l[j]? = some x := by
 obtain ⟨j, hj, ej⟩ := drop_at h
 have hl := (List.getElem?_eq_some_iff.mp ej).1
 rw [List.length_take] at hl
 rw [List.getElem?_take] at ej
 rw [if_pos (by (first | lia | omega))] at ej
 exact ⟨j, hj, by (first | lia | omega), ej⟩
theorem tk_at {l : List Keyed} {n : Nat} {x : Keyed} (h : x ∈ l.take n) : ∃ j, j < n /\ l[j]? = some x := by
 obtain ⟨j, _, h2, h3⟩ := mid_at (m := 0) (l := l) (n := n) (x := x) (by rw [List.drop_zero]; exact h)
 exact ⟨j, h2, h3⟩
theorem join3 {α : Type} {jp : PUnit -> Nat -> Array Keyed -> StateT SortSt Sem α} {m : StateT SortSt Sem α} {Q : α -> SortSt -> Prop} {st : SortSt} (I : Nat -> Array Keyed -> Prop) (hj : ∀ n o, I n o -> wpS (model prog w) A E s (jp () n o) Q st) (h : (∀ n o, I n o -> wpS (model prog w) A E s (jp () n o) Q st) -> wpS (model prog w) A E s m Q st) : wpS (model prog w) A E s m Q st := h hj
theorem mergeHi_ok {a b : Array Keyed} {st : SortSt} {Q : Array Keyed -> SortSt -> Prop} (L : LtOk prog w A E s κ O key Good) (ga : ∀ x ∈ a.toList, Good x) (gb : ∀ x ∈ b.toList, Good x) (sa : a.toList.Pairwise (Le O key)) (sb : b.toList.Pairwise (Le O key))
  (na : 0 < a.size) (nb : 0 < b.size) (hf : ∀ x, a.toList[0]? = some x -> ∀ y, b.toList[0]? = some y -> Le O key y x) (hl : ∀ y ∈ b.toList, ∀ x, a.toList[a.size - 1]? = some x -> Le O key y x) (hst : kindOf st = κ)
  (h : ∀ r st', Fi O key a b r -> Sm κ st st' -> Q r st') : wpS (model prog w) A E s (mergeHi' a b) Q st := by
 have at_a : ∀ i, i < a.size -> ∃ x, a[i]? = some x /\ a.toList[i]? = some x /\ Good x := fun i hi => by
  obtain ⟨x, h1, h2⟩ := arr_at hi
  exact ⟨x, h1, h2, ga x (List.mem_of_getElem? h2)⟩
 have at_b : ∀ i, i < b.size -> ∃ x, b[i]? = some x /\ b.toList[i]? = some x /\ Good x := fun i hi => by
  obtain ⟨x, h1, h2⟩ := arr_at hi
  exact ⟨x, h1, h2, gb x (List.mem_of_getElem? h2)⟩
 have sg : ∀ {c : Array Keyed}, c.toList.Pairwise (Le O key) -> ∀ n, n <= c.size -> ∀ i j x z, i <= j -> j < n -> c[0 + i]? = some x -> c[0 + j]? = some z -> Le O key x z := fun {c} sc n hn i j x z hij hj hx hz => by
  rw [Nat.zero_add] at hx hz
  exact le_at sc (by simpa using hx) (by simpa using hz) hij
 have low : ∀ {n m}, m = 1 -> ∀ x ∈ a.toList.take n, ∀ y ∈ b.toList.take m, Le O key y x := fun {n m} hm x hx y hy => by
  obtain ⟨i, _, ei⟩ := tk_at hx
  obtain ⟨j, hj, ej⟩ := tk_at hy
  obtain rfl : j = 0 := by (first | lia | omega)
  obtain ⟨x0, _, lx0, _⟩ := at_a 0 na
  exact (hf x0 lx0 y ej).trans (le_at sa lx0 ei (Nat.zero_le _))
 unfold mergeHi'
 refine wpS_bind (wpS_lift (wpAny_rule ⟨rfl, ?_⟩))
 try dsimp -zeta only
 obtain ⟨x0, hx0, lx0, _⟩ := at_a (a.size - 1) (by (first | lia | omega))
 have s0 : Sm κ st st := ⟨hst, rfl, rfl, rfl⟩
 have M0 : Mh O key a b #[x0] (a.size - 1) b.size := by
  have : Mh O key a b #[] a.size b.size := by
   show Mg (rv O) key _ _ #[] (a.size - a.size) (b.size - b.size)
   rw [Nat.sub_self, Nat.sub_self]
   exact ⟨by simp, by simp, fun x hx => (by simp at hx), fun x hx => (by simp at hx)⟩
  have := Mh.push this sa na (Nat.le_refl _) (Nat.le_refl _) lx0 fun y hy => hl y (List.mem_of_mem_take hy) x0 lx0
  simpa using this
 refine wpS_bind (elem_ok hx0 ?_)
 refine ite_ok (fun e1 => wpS_pure (h _ _ (M0.finA sa sb (by (first | lia | omega)) (Nat.le_refl _) (.inl e1)) s0)) (fun e1 => ite_ok (fun e2 => wpS_pure (h _ _ (M0.finB sa sb (by (first | lia | omega)) (Nat.le_refl _) (low (beq_iff_eq.mp e2))) s0)) (fun e2 => ?_))
 have e1' := ne_of_beq e1
 have e2' := ne_of_beq e2
 refine wpS_bind (wpS_get ?_)
 refine bindFor
  (I := fun i c st' => Sm κ st st' /\ ∃ na nb out g, c = (none, na, nb, out, g) /\ Ch O key a b out na nb /\ i + 1 + na + nb <= a.size + b.size)
  (Q := fun c st' => Sm κ st st' /\ ∃ r na nb out g, c = (some r, na, nb, out, g) /\ Fi O key a b r) ?step ?fin ⟨s0, _, _, _, _, rfl, ⟨M0, by (first | lia | omega), by (first | lia | omega), by (first | lia | omega), by (first | lia | omega)⟩, by (first | lia | omega)⟩ ?post
 case post =>
  intro c st' hh
  refine go fun _ bk0 => ?_
  obtain ⟨s1, r, na, nb, out, g, rfl, F⟩ := hh
  refine bk0 ?_
  exact wpS_pure (h r st' F s1)
 case fin =>
  intro c st' hh
  refine go fun _ bk0 => ?_
  obtain ⟨s1, na, nb, out, g, rfl, C, hz⟩ := hh
  refine bk0 ?_
  exfalso
  have := C.a0
  (first | lia | omega)
 case step =>
  intro i c st' _ _ hh
  refine go fun _ bk0 => ?_
  obtain ⟨s1, na, nb, out, g, rfl, C, hz⟩ := hh
  refine bk0 ?_
  try dsimp -zeta only
  refine bindFor
   (I := fun _ c st' => Sm κ st st' /\ ∃ na nb out ac bc, c = (none, na, nb, out, ac, bc) /\ Ch O key a b out na nb /\ i + 1 + na + nb <= a.size + b.size)
   (Q := fun c st' => Sm κ st st' /\ ((∃ r na nb out ac bc, c = (some r, na, nb, out, ac, bc) /\ Fi O key a b r) \/ ∃ na nb out ac bc, c = (none, na, nb, out, ac, bc) /\ Ch O key a b out na nb /\ i + 1 + na + nb <= a.size + b.size)) ?step1 ?fin1 ⟨s1, _, _, _, _, _, rfl, C, hz⟩ ?post1
  case fin1 => exact fun c st' h => ⟨h.1, .inr h.2⟩
  case step1 =>
   intro j c st2 _ _ hh
   refine go fun _ bk0 => ?_
   obtain ⟨s2, na, nb, out, ac, bc, rfl, C, hz⟩ := hh
   refine bk0 ?_
   try dsimp -zeta only
   obtain ⟨M, a0, a1, b0, b1⟩ := C
   obtain ⟨y, hy, ly, gy⟩ := at_b (nb - 1) (by (first | lia | omega))
   obtain ⟨x, hx, lx, gx⟩ := at_a (na - 1) (by (first | lia | omega))
   refine wpS_bind (elem_ok hy (wpS_bind (elem_ok hx (wpS_bind (L y x gy gx _ _ s2.kind ?_)))))
   cases q : O.blt (key y) (key x) with
   | true =>
    try dsimp -zeta only
    refine iteT rfl ?_
    refine wpS_bind (elem_ok hx ?_)
    have M1 := M.push sa a0 a1 b1 lx fun z hz => by
     obtain ⟨j, hj, ej⟩ := tk_at hz
     exact (le_at sb ej ly (by (first | lia | omega))).trans (le_of_lt q)
    refine ite_ok (fun f1 => wpS_pure ⟨s2, .inl ⟨_, _, _, _, _, _, rfl, M1.finA sa sb (by (first | lia | omega)) b1 (.inl f1)⟩⟩) (fun f1 => ?_)
    have f1' := ne_of_beq f1
    refine ite_ok (fun _ => wpS_pure ⟨s2, .inr ⟨_, _, _, _, _, rfl, ⟨M1, by (first | lia | omega), by (first | lia | omega), b0, b1⟩, by (first | lia | omega)⟩⟩) (fun _ => wpS_pure ⟨s2, _, _, _, _, _, rfl, ⟨M1, by (first | lia | omega), by (first | lia | omega), b0, b1⟩, by (first | lia | omega)⟩)
   | false =>
    try dsimp -zeta only
    refine iteF Bool.false_ne_true ?_
    refine wpS_bind (elem_ok hy ?_)
    have M1 := (Mh.push M.swap sb (by (first | lia | omega)) b1 a1 ly fun z hz => by
     obtain ⟨j, hj, ej⟩ := tk_at hz
     exact (le_at sa ej lx (by (first | lia | omega))).trans (le_of_nlt q)).swap
    refine ite_ok (fun f1 => wpS_pure ⟨s2, .inl ⟨_, _, _, _, _, _, rfl, M1.finB sa sb a1 (by (first | lia | omega)) (low (beq_iff_eq.mp f1))⟩⟩) (fun f1 => ?_)
    have f1' := ne_of_beq f1
    refine ite_ok (fun _ => wpS_pure ⟨s2, .inr ⟨_, _, _, _, _, rfl, ⟨M1, a0, a1, by (first | lia | omega), by (first | lia | omega)⟩, by (first | lia | omega)⟩⟩) (fun _ => wpS_pure ⟨s2, _, _, _, _, _, rfl, ⟨M1, a0, a1, by (first | lia | omega), by (first | lia | omega)⟩, by (first | lia | omega)⟩)
  case post1 =>
   intro c st2 hh
   refine go fun _ bk0 => ?_
   obtain ⟨s2, ⟨r, na, nb, out, ac, bc, rfl, F⟩ | ⟨na, nb, out, ac, bc, rfl, C, hz⟩⟩ := hh
   all_goals refine bk0 ?_
   ·exact wpS_pure ⟨s2, r, _, _, _, _, rfl, F⟩
   try dsimp -zeta only
   refine wpS_bind (wpS_lift (wpAny_rule ⟨rfl, ?_⟩))
   refine bindFor
    (I := fun j c st' => Sm κ st st' /\ ∃ na nb out g ac bc, c = (none, na, nb, out, g, ac, bc) /\ Ch O key a b out na nb /\ i + 1 + j + na + nb <= a.size + b.size)
    (Q := fun c st' => Sm κ st st' /\ ((∃ r na nb out g ac bc, c = (some r, na, nb, out, g, ac, bc) /\ Fi O key a b r) \/ ∃ na nb out g ac bc, c = (none, na, nb, out, g, ac, bc) /\ Ch O key a b out na nb /\ i + 2 + na + nb <= a.size + b.size)) ?step2 ?fin2 ⟨s2, _, _, _, _, _, _, rfl, C, hz⟩ ?post2
   case fin2 =>
    intro c st' hh
    refine go fun _ bk0 => ?_
    obtain ⟨s3, na, nb, out, g, ac, bc, rfl, C, hz⟩ := hh
    refine bk0 ?_
    exact ⟨s3, .inr ⟨_, _, _, _, _, _, rfl, C, by (first | lia | omega)⟩⟩
   case post2 =>
    intro c st3 hh
    refine go fun _ bk0 => ?_
    obtain ⟨s3, ⟨r, na, nb, out, g, ac, bc, rfl, F⟩ | ⟨na, nb, out, g, ac, bc, rfl, C, hz⟩⟩ := hh
    all_goals refine bk0 ?_
    ·exact wpS_pure ⟨s3, r, _, _, _, _, rfl, F⟩
    ·dsimp only
     refine wpS_bind (wpS_modify ?_)
     exact wpS_pure ⟨⟨s3.kind, s3.arr, s3.pend, s3.fail⟩, _, _, _, _, rfl, C, by (first | lia | omega)⟩
   case step2 =>
    intro j c st3 _ _ hh
    refine go fun _ bk0 => ?_
    obtain ⟨s3, na, nb, out, g, ac, bc, rfl, C, hz⟩ := hh
    refine bk0 ?_
    obtain ⟨M, a0, a1, b0, b1⟩ := C
    obtain ⟨y, hy, ly, gy⟩ := at_b (nb - 1) (by (first | lia | omega))
    try dsimp -zeta only
    extract_lets u0 u1 u2 u3 u4 u5 u6 u7 u8 u9 u10 v1 jp v2
    refine ite_two (m := jp ()) (fun mg => ?_)
    dsimp -zeta only [jp]
    clear jp v2
    refine wpS_bind (wpS_modify ?_)
    refine wpS_bind (elem_ok hy ?_)
    refine wpS_bind (gal_r L gy (fun i hi => by obtain ⟨x, h1, _, h2⟩ := at_a (0 + i) (by have : i < na := hi; (first | lia | omega)); exact ⟨x, h1, h2⟩) (sg sa na a1) (show na - 1 < na from by (first | lia | omega)) s3.kind fun m hm k1 k2 => ?_)
    try dsimp -zeta only
    have hm : m <= na := hm
    extract_lets kk ac2 jp2 out2 na2
    have up : ∀ x ∈ (a.toList.take na).drop m, Le O key y x := fun x hx => by
     obtain ⟨j, h1, h2, h3⟩ := mid_at hx
     exact le_of_lt (k2 j x h1 h2 (by rw [Nat.zero_add]; simpa using h3))
    have dn : ∀ x ∈ a.toList.take m, Le O key x y := fun x hx => by
     obtain ⟨j, h1, h2⟩ := tk_at hx
     exact k1 j x h1 (by rw [Nat.zero_add]; simpa using h2)
    have M1 := M.app sa hm a1 b1 fun x hx z hz => by
     obtain ⟨j, h1, h2⟩ := tk_at hz
     exact (le_at sb h2 ly (by (first | lia | omega))).trans (up x hx)
    have ekk : kk = na - m := rfl
    refine join3 (jp := jp2) (fun n o => Mh O key a b o n nb /\ (∀ x ∈ a.toList.take n, Le O key x y) /\ 0 < n /\ n <= na) (fun n o hI => ?rest) (fun hj => ?here)
    case here =>
     refine ite_ok (fun hk0 => ite_ok (fun f1 => wpS_pure ⟨⟨s3.kind, s3.arr, s3.pend, s3.fail⟩, .inl ⟨_, _, _, _, _, _, _, rfl, M1.finA sa sb (by (first | lia | omega)) b1 (.inl f1)⟩⟩) (fun f1 => hj _ _ ⟨M1, dn, ?_, hm⟩)) (fun hk0 => ?_)
     ·have := ne_of_beq f1
      have e2 : na2 = m := rfl
      show 0 < m
      (first | lia | omega)
     ·obtain rfl : m = na := by (first | lia | omega)
      have ez : a.extract m m = #[] := by
       apply Array.ext'
       rw [ext_mid, List.drop_of_length_le (by rw [List.length_take]; (first | lia | omega))]
      rw [ez, Array.reverse_empty, Array.append_empty] at M1
      exact hj _ _ ⟨M1, dn, a0, Nat.le_refl _⟩
    clear hm k1 k2 M1 up dn ekk
    dsimp -zeta only [jp2]
    clear jp2 out2 na2
    obtain ⟨MI, kI, lI, leI⟩ := hI
    have M2 := (Mh.push MI.swap sb (by (first | lia | omega)) b1 (by (first | lia | omega)) ly kI).swap
    try dsimp -zeta only
    refine wpS_bind (elem_ok hy ?_)
    try dsimp -zeta only
    extract_lets out3
    have ev : v1 = nb - 1 := rfl
    refine ite_ok (fun f3 => wpS_pure ⟨⟨s3.kind, s3.arr, s3.pend, s3.fail⟩, .inl ⟨_, _, _, _, _, _, _, rfl, M2.finB sa sb (by (first | lia | omega)) (by (first | lia | omega)) (low (beq_iff_eq.mp f3))⟩⟩) (fun f3 => ?_)
    have f3' : nb - 1 ≠ 1 := ne_of_beq f3
    obtain ⟨x, hx, lx, gx⟩ := at_a (n - 1) (by (first | lia | omega))
    refine wpS_bind (elem_ok hx ?_)
    refine wpS_bind (gal_l L gx (fun i hi => by obtain ⟨x, h1, _, h2⟩ := at_b (0 + i) (by have : i < nb - 1 := hi; (first | lia | omega)); exact ⟨x, h1, h2⟩) (sg sb (nb - 1) (by (first | lia | omega))) (show nb - 1 - 1 < nb - 1 from by (first | lia | omega)) s3.kind fun m' hm' k1' k2' => ?_)
    try dsimp -zeta only
    have hm' : m' <= nb - 1 := hm'
    extract_lets kk bc3 jp3 out4 nb4
    have ekk : kk = nb - 1 - m' := rfl
    have up' : ∀ z ∈ (b.toList.take (nb - 1)).drop m', Le O key x z := fun z hz => by
     obtain ⟨j, h1, h2, h3⟩ := mid_at hz
     exact k2' j z h1 h2 (by rw [Nat.zero_add]; simpa using h3)
    have dn' : ∀ z ∈ b.toList.take m', Le O key z x := fun z hz => by
     obtain ⟨j, h1, h2⟩ := tk_at hz
     exact le_of_lt (k1' j z h1 (by rw [Nat.zero_add]; simpa using h2))
    have M3 := (Mh.app M2.swap sb hm' (by (first | lia | omega)) (by (first | lia | omega)) fun z hz u hu => by
     obtain ⟨j, h1, h2⟩ := tk_at hu
     exact (le_at sa h2 lx (by (first | lia | omega))).trans (up' z hz)).swap
    refine join3 (jp := jp3) (fun n2 o => Mh O key a b o n n2 /\ (∀ z ∈ b.toList.take n2, Le O key z x) /\ 1 < n2 /\ n2 <= nb - 1) (fun n2 o hI => ?rest2) (fun hj => ?here2)
    case here2 =>
     refine ite_ok (fun h1 => ite_ok (fun f4 => wpS_pure ⟨⟨s3.kind, s3.arr, s3.pend, s3.fail⟩, .inl ⟨_, _, _, _, _, _, _, rfl, M3.finB sa sb (by (first | lia | omega)) (by (first | lia | omega)) (low (beq_iff_eq.mp f4))⟩⟩) (fun f4 => ite_ok (fun f6 => wpS_pure ⟨⟨s3.kind, s3.arr, s3.pend, s3.fail⟩, .inl ⟨_, _, _, _, _, _, _, rfl, M3.finA sa sb (by (first | lia | omega)) (by (first | lia | omega)) (.inr f6)⟩⟩) (fun f6 => hj _ _ ⟨M3, dn', ?_, hm'⟩))) (fun h1 => ?_)
     ·have := ne_of_beq f4
      have := ne_of_beq f6
      have e2 : nb4 = m' := rfl
      show 1 < m'
      (first | lia | omega)
     ·obtain rfl : m' = nb - 1 := by (first | lia | omega)
      have ez' : b.extract (nb - 1) (nb - 1) = #[] := by
       apply Array.ext'
       rw [ext_mid, List.drop_of_length_le (by rw [List.length_take]; (first | lia | omega))]
      rw [ez', Array.reverse_empty, Array.append_empty] at M3
      exact hj _ _ ⟨M3, dn', by (first | lia | omega), Nat.le_refl _⟩
    clear hm' k1' k2' M3 M2 up' dn' ekk
    dsimp -zeta only [jp3]
    clear jp3 out4 nb4
    obtain ⟨MI2, kI2, lI2, leI2⟩ := hI
    have M4 := MI2.push sa lI (by (first | lia | omega)) (by (first | lia | omega)) lx kI2
    try dsimp -zeta only
    try extract_lets na5
    refine wpS_bind (elem_ok hx ?_)
    try dsimp -zeta only
    extract_lets out5
    refine ite_ok (fun f5 => wpS_pure ⟨⟨s3.kind, s3.arr, s3.pend, s3.fail⟩, .inl ⟨_, _, _, _, _, _, _, rfl, M4.finA sa sb (by (first | lia | omega)) (by (first | lia | omega)) (.inl f5)⟩⟩) (fun f5 => ?_)
    have f5' : n - 1 ≠ 0 := ne_of_beq f5
    have C5 : Ch O key a b (o.push x) (n - 1) n2 := ⟨M4, by (first | lia | omega), by (first | lia | omega), lI2, by (first | lia | omega)⟩
    exact ite_ok (fun _ => wpS_pure ⟨⟨s3.kind, s3.arr, s3.pend, s3.fail⟩, .inr ⟨_, _, _, _, _, _, rfl, C5, by (first | lia | omega)⟩⟩) (fun _ => wpS_pure ⟨⟨s3.kind, s3.arr, s3.pend, s3.fail⟩, _, _, _, _, _, _, rfl, C5, by (first | lia | omega)⟩)
end
end Ts
namespace Ts
open PySem PyProof.Rows
noncomputable def sg (a : Array Keyed) (lo n : Nat) : List Keyed := (a.toList.drop lo).take n
theorem sg_add (a : Array Keyed) (lo m n : Nat) : sg a lo (m + n) = sg a lo m ++ sg a (lo + m) n := by
 unfold sg
 rw [take_add, drop_add']
theorem sg_all (a : Array Keyed) (lo n : Nat) : a.toList = a.toList.take lo ++ sg a lo n ++ a.toList.drop (lo + n) := by
 unfold sg
 rw [drop_add', List.append_assoc, List.take_append_drop, List.take_append_drop]
theorem sg_len {a : Array Keyed} {lo n : Nat} (h : lo + n <= a.size) : (sg a lo n).length = n := by
 unfold sg
 rw [List.length_take, List.length_drop, Array.length_toList]
 (first | lia | omega)
theorem sg_at {a : Array Keyed} {lo n : Nat} {x : Keyed} (h : x ∈ sg a lo n) : ∃ j, j < n /\ a[lo + j]? = some x := by
 obtain ⟨j, hj, ej⟩ := take_at h
 exact ⟨j, hj, by simpa using ej⟩
theorem sg_get {a : Array Keyed} {lo n i : Nat} (h : i < n) : (sg a lo n)[i]? = a[lo + i]? := by
 unfold sg
 rw [List.getElem?_take, if_pos h, List.getElem?_drop]
 simp
theorem sg_congr {a b : Array Keyed} {lo n : Nat} (h : ∀ i, i < n -> a[lo + i]? = b[lo + i]?) : sg a lo n = sg b lo n := by
 apply List.ext_getElem?
 intro i
 by_cases hi : i < n
 ·rw [sg_get hi, sg_get hi, h i hi]
 ·unfold sg
  rw [List.getElem?_take, List.getElem?_take, if_neg hi, if_neg hi]
theorem ext_sg (a : Array Keyed) (lo n : Nat) : (a.extract lo (lo + n)).toList = sg a lo n := ext_take a lo n
theorem wr_at : ∀ (l : List Keyed) (m b : Nat) (a : Array Keyed) (i : Nat), b + m + l.length <= a.size →
  ((l.zipIdx m).foldl (fun a (x : Keyed × Nat) => a.setIfInBounds (b + x.2) x.1) a)[i]? = if b + m <= i /\ i < b + m + l.length then l[i - (b + m)]? else a[i]?
 | [], m, b, a, i, h => by
  rw [if_neg (by simp)]
  rfl
 | x :: l, m, b, a, i, h => by
  rw [List.length_cons] at h
  rw [List.zipIdx_cons, List.foldl_cons, wr_at l (m + 1) b _ i (by rw [Array.size_setIfInBounds]; (first | lia | omega))]
  by_cases c : b + (m + 1) <= i /\ i < b + (m + 1) + l.length
  ·rw [if_pos c, if_pos (by rw [List.length_cons]; (first | lia | omega)), show i - (b + m) = (i - (b + (m + 1))) + 1 by (first | lia | omega), List.getElem?_cons_succ]
  ·rw [if_neg c, Array.getElem?_setIfInBounds]
   by_cases e : b + m = i
   ·rw [if_pos e, if_pos (by (first | lia | omega)), if_pos (by rw [List.length_cons]; (first | lia | omega)), <- e, Nat.sub_self]
    rfl
   ·rw [if_neg e, if_neg (by rw [List.length_cons]; (first | lia | omega))]
noncomputable def Frm (a a' : Array Keyed) (lo n : Nat) : Prop := ∀ i, ¬ (lo <= i /\ i < lo + n) -> a'[i]? = a[i]?
theorem Frm.refl (a : Array Keyed) (lo n : Nat) : Frm a a lo n := fun _ _ => rfl
theorem Frm.trans {a b c : Array Keyed} {lo n : Nat} (h : Frm a b lo n) (k : Frm b c lo n) : Frm a c lo n := fun i hi => (k i hi).trans (h i hi)
theorem perm_of_frm {a a' : Array Keyed} {lo n : Nat} (hs : a'.size = a.size) (h : Frm a a' lo n) (hp : (sg a' lo n).Perm (sg a lo n)) : a'.toList.Perm a.toList := by
 have e1 : a'.toList.take lo = a.toList.take lo := by
  apply List.ext_getElem?
  intro i
  rw [List.getElem?_take, List.getElem?_take]
  by_cases hi : i < lo
  ·rw [if_pos hi, if_pos hi]
   have := h i (by (first | lia | omega))
   simpa using this
  ·rw [if_neg hi, if_neg hi]
 have e2 : a'.toList.drop (lo + n) = a.toList.drop (lo + n) := by
  apply List.ext_getElem?
  intro i
  rw [List.getElem?_drop, List.getElem?_drop]
  have := h (lo + n + i) (by (first | lia | omega))
  simpa using this
 rw [sg_all a' lo n, sg_all a lo n, e1, e2]
 exact (hp.append_left _).append_right _
section
variable {O : KeyOrd} {key : Keyed -> O.α}
theorem pw_app {l m : List Keyed} (hl : l.Pairwise (Le O key)) (hm : m.Pairwise (Le O key)) (h : ∀ x ∈ l, ∀ y ∈ m, Le O key x y) : (l ++ m).Pairwise (Le O key) := List.pairwise_append.mpr ⟨hl, hm, h⟩
theorem seg_at {a : Array Keyed} {lo n i j : Nat} {x y : Keyed} (h : (sg a lo n).Pairwise (Le O key)) (hij : i <= j) (hj : j < n) (ex : a[lo + i]? = some x) (ey : a[lo + j]? = some y) : Le O key x y :=
 le_at h ((sg_get (by (first | lia | omega))).trans ex) ((sg_get hj).trans ey) hij
end
section
variable {prog : Program} {w : World} {A : Around} {E : Value -> Shared -> Prop} {s : Shared} {κ : SortKind} {O : KeyOrd} {key : Keyed -> O.α} {Good : Keyed -> Prop}
structure Kp (κ : SortKind) (a₀ : Array Keyed) (st : SortSt) : Prop where
 kind : kindOf st = κ
 perm : (arrOf st).toList.Perm a₀.toList
 fail : failedOf st = none
theorem Kp.size {a₀ : Array Keyed} {st : SortSt} (K : Kp κ a₀ st) : (arrOf st).size = a₀.size := by
 have := K.perm.length_eq
 simpa using this
theorem Kp.good {a₀ : Array Keyed} {st : SortSt} (K : Kp κ a₀ st) (g : ∀ x ∈ a₀.toList, Good x) {i : Nat} (h : i < a₀.size) : ∃ x, (arrOf st)[i]? = some x /\ Good x := by
 obtain ⟨x, h1, h2⟩ := arr_at (a := arrOf st) (i := i) (by rw [K.size]; exact h)
 exact ⟨x, h1, g x (K.perm.mem_iff.mp (List.mem_of_getElem? h2))⟩
theorem set_ok {x : SortSt} {Q : PUnit -> SortSt -> Prop} {st : SortSt} (h : Q ⟨⟩ x) : wpS (model prog w) A E s (set x : StateT SortSt Sem PUnit) Q st := by
 have : wpS (model prog w) A E s (modify (fun _ => x) : StateT SortSt Sem PUnit) Q st := wpS_modify h
 exact this
theorem mergeAt_ok {a₀ : Array Keyed} {st : SortSt} {i sa na nb p q : Nat} {Q : Bool -> SortSt -> Prop} (L : LtOk prog w A E s κ O key Good) (g : ∀ x ∈ a₀.toList, Good x) (K : Kp κ a₀ st)
  (h1 : (pendingOf st)[i]? = some (sa, na, p)) (h2 : (pendingOf st)[i + 1]? = some (sa + na, nb, q)) (pa : 0 < na) (pb : 0 < nb) (hs : sa + na + nb <= a₀.size)
  (sA : (sg (arrOf st) sa na).Pairwise (Le O key)) (sB : (sg (arrOf st) (sa + na) nb).Pairwise (Le O key))
  (h : ∀ st', Kp κ a₀ st' -> pendingOf st' = ((pendingOf st).setIfInBounds i (sa, na + nb, p)).eraseIdxIfInBounds (i + 1) -> (sg (arrOf st') sa (na + nb)).Pairwise (Le O key) -> Frm (arrOf st) (arrOf st') sa (na + nb) -> Q true st') :
  wpS (model prog w) A E s (mergeAt' i) Q st := by
 have gd : ∀ i, i < a₀.size -> ∃ x, (arrOf st)[i]? = some x /\ Good x := fun i hi => K.good g hi
 have sz := K.size
 unfold mergeAt'
 refine wpS_bind (wpS_get ?_)
 dsimp only
 rw [h1, h2]
 dsimp only
 refine wpS_bind (set_ok ?_)
 obtain ⟨y0, ey0, gy0⟩ := gd (sa + na) (by (first | lia | omega))
 refine wpS_bind (elem_ok ey0 ?_)
 refine wpS_bind (gal_r (key := key) L gy0 (fun i hi => gd _ (by (first | lia | omega))) (fun i j x z hij hj ex ez => seg_at sA hij hj ex ez) pa K.kind fun k hk rA rB => ?_)
 dsimp only
 have eA : sg (arrOf st) sa na = sg (arrOf st) sa k ++ sg (arrOf st) (sa + k) (na - k) := by rw [<- sg_add]; congr 1; (first | lia | omega)
 have leY : ∀ y ∈ sg (arrOf st) (sa + na) nb, Le O key y0 y := fun y hy => by
  obtain ⟨j, hj, ej⟩ := sg_at hy
  exact seg_at sB (Nat.zero_le j) hj ey0 ej
 have leA1 : ∀ x ∈ sg (arrOf st) sa k, Le O key x y0 := fun x hx => by
  obtain ⟨j, hj, ej⟩ := sg_at hx
  exact rA j x hj ej
 have ltA2 : ∀ x ∈ sg (arrOf st) (sa + k) (na - k), O.blt (key y0) (key x) = true := fun x hx => by
  obtain ⟨j, hj, ej⟩ := sg_at hx
  exact rB (k + j) x (by (first | lia | omega)) (by (first | lia | omega)) (by rw [<- Nat.add_assoc]; exact ej)
 refine ite_ok (fun e => wpS_pure (h _ ⟨K.kind, K.perm, K.fail⟩ rfl ?_ (Frm.refl _ _ _))) (fun e => ?_)
 ·show (sg (arrOf st) sa (na + nb)).Pairwise (Le O key)
  have ek : k = na := by have := beq_iff_eq.mp e; (first | lia | omega)
  subst ek
  rw [sg_add]
  exact pw_app sA sB fun x hx y hy => (leA1 x hx).trans (leY y hy)
 have hk' : k < na := by have := ne_of_beq e; (first | lia | omega)
 obtain ⟨x0, ex0, gx0⟩ := gd (sa + k + (na - k) - 1) (by (first | lia | omega))
 refine wpS_bind (elem_ok ex0 ?_)
 refine wpS_bind (gal_l (key := key) L gx0 (fun i hi => gd _ (by (first | lia | omega))) (fun i j x z hij hj ex ez => seg_at sB hij hj ex ez) (by (first | lia | omega)) K.kind fun r hr qA qB => ?_)
 dsimp only
 have eB : sg (arrOf st) (sa + na) nb = sg (arrOf st) (sa + na) r ++ sg (arrOf st) (sa + na + r) (nb - r) := by rw [<- sg_add]; congr 1; (first | lia | omega)
 have eX : sa + k + (na - k) - 1 = sa + (na - 1) := by (first | lia | omega)
 have leX : ∀ x ∈ sg (arrOf st) sa na, Le O key x x0 := fun x hx => by
  obtain ⟨j, hj, ej⟩ := sg_at hx
  exact seg_at sA (i := j) (j := na - 1) (by (first | lia | omega)) (by (first | lia | omega)) ej (eX ▸ ex0)
 have ltB1 : ∀ y ∈ sg (arrOf st) (sa + na) r, O.blt (key y) (key x0) = true := fun x hx => by
  obtain ⟨j, hj, ej⟩ := sg_at hx
  exact qA j x hj ej
 have leB2 : ∀ y ∈ sg (arrOf st) (sa + na + r) (nb - r), Le O key x0 y := fun x hx => by
  obtain ⟨j, hj, ej⟩ := sg_at hx
  exact qB (r + j) x (by (first | lia | omega)) (by (first | lia | omega)) (by rw [<- Nat.add_assoc]; exact ej)
 refine ite_ok (fun e => wpS_pure (h _ ⟨K.kind, K.perm, K.fail⟩ rfl ?_ (Frm.refl _ _ _))) (fun e => ?_)
 ·show (sg (arrOf st) sa (na + nb)).Pairwise (Le O key)
  have er : r = 0 := beq_iff_eq.mp e
  subst er
  rw [sg_add]
  exact pw_app sA sB fun x hx y hy => (leX x hx).trans (leB2 y hy)
 have hr0 : 0 < r := by have := ne_of_beq e; (first | lia | omega)
 have eXs : ((arrOf st).extract (sa + k) (sa + na)).toList = sg (arrOf st) (sa + k) (na - k) := by rw [<- ext_sg]; congr 2; (first | lia | omega)
 have eYs : ((arrOf st).extract (sa + na) (sa + na + r)).toList = sg (arrOf st) (sa + na) r := ext_sg _ _ _
 have lX : (sg (arrOf st) (sa + k) (na - k)).length = na - k := sg_len (by (first | lia | omega))
 have lY : (sg (arrOf st) (sa + na) r).length = r := sg_len (by (first | lia | omega))
 have pA2 : (sg (arrOf st) (sa + k) (na - k)).Pairwise (Le O key) := by rw [eA] at sA; exact (List.pairwise_append.mp sA).2.1
 have pB1 : (sg (arrOf st) (sa + na) r).Pairwise (Le O key) := by rw [eB] at sB; exact (List.pairwise_append.mp sB).1
 have szX : ((arrOf st).extract (sa + k) (sa + na)).size = na - k := by rw [<- Array.length_toList, eXs, lX]
 have szY : ((arrOf st).extract (sa + na) (sa + na + r)).size = r := by rw [<- Array.length_toList, eYs, lY]
 have gX : ∀ x ∈ ((arrOf st).extract (sa + k) (sa + na)).toList, Good x := fun x hx => by
  rw [eXs] at hx
  obtain ⟨j, hj, ej⟩ := sg_at hx
  obtain ⟨z, e1, e2⟩ := gd (sa + k + j) (by (first | lia | omega))
  rw [e1] at ej; cases ej
  exact e2
 have gY : ∀ x ∈ ((arrOf st).extract (sa + na) (sa + na + r)).toList, Good x := fun x hx => by
  rw [eYs] at hx
  obtain ⟨j, hj, ej⟩ := sg_at hx
  obtain ⟨z, e1, e2⟩ := gd (sa + na + j) (by (first | lia | omega))
  rw [e1] at ej; cases ej
  exact e2
 have hf : ∀ x, ((arrOf st).extract (sa + k) (sa + na)).toList[0]? = some x -> ∀ y, ((arrOf st).extract (sa + na) (sa + na + r)).toList[0]? = some y -> Le O key y x := fun x ex y ey => by
  rw [eXs] at ex
  rw [eYs, sg_get hr0, Nat.add_zero, ey0] at ey
  cases ey
  exact le_of_lt (ltA2 x (List.mem_of_getElem? ex))
 have hl : ∀ y ∈ ((arrOf st).extract (sa + na) (sa + na + r)).toList, ∀ x, ((arrOf st).extract (sa + k) (sa + na)).toList[((arrOf st).extract (sa + k) (sa + na)).size - 1]? = some x -> Le O key y x := fun y hy x ex => by
  rw [eYs] at hy
  rw [szX, eXs, sg_get (by (first | lia | omega)), show sa + k + (na - k - 1) = sa + k + (na - k) - 1 by (first | lia | omega), ex0] at ex
  cases ex
  exact le_of_lt (ltB1 y hy)
 have fin : ∀ (m : Array Keyed) (st' : SortSt), Fi O key ((arrOf st).extract (sa + k) (sa + na)) ((arrOf st).extract (sa + na) (sa + na + r)) m →
   kindOf st' = κ -> arrOf st' = arrOf st -> pendingOf st' = ((pendingOf st).setIfInBounds i (sa, na + nb, p)).eraseIdxIfInBounds (i + 1) -> failedOf st' = none →
   Q true (setArr st' (m.toList.zipIdx.foldl (fun a (x : Keyed × Nat) => a.setIfInBounds (sa + k + x.2) x.1) (arrOf st'))) := fun m st' F c1 c2 c3 c4 => by
  obtain ⟨mp, ms⟩ := F
  rw [eXs, eYs] at mp
  have ml : m.toList.length = na - k + r := by rw [mp.length_eq, List.length_append, lX, lY]
  rw [c2]
  generalize ea : m.toList.zipIdx.foldl (fun a (x : Keyed × Nat) => a.setIfInBounds (sa + k + x.2) x.1) (arrOf st) = a'
  have at' : ∀ i, a'[i]? = if sa + k <= i /\ i < sa + k + (na - k + r) then m.toList[i - (sa + k)]? else (arrOf st)[i]? := fun i => by
   have := wr_at m.toList 0 (sa + k) (arrOf st) i (by rw [ml]; (first | lia | omega))
   rw [ea, ml] at this
   exact this
  have sz' : a'.size = (arrOf st).size := by
   rw [<- ea]
   have : ∀ (l : List (Keyed × Nat)) (a : Array Keyed), (l.foldl (fun a (x : Keyed × Nat) => a.setIfInBounds (sa + k + x.2) x.1) a).size = a.size := by
    intro l
    induction l with
    | nil => intro a; rfl
    | cons x l ih => intro a; rw [List.foldl_cons, ih, Array.size_setIfInBounds]
   exact this _ _
  have fr : Frm (arrOf st) a' (sa + k) (na - k + r) := fun i hi => by rw [at' i, if_neg hi]
  have em : sg a' (sa + k) (na - k + r) = m.toList := by
   apply List.ext_getElem?
   intro i
   by_cases hi : i < na - k + r
   ·rw [sg_get hi, at', if_pos (by (first | lia | omega))]
    congr 1; (first | lia | omega)
   ·rw [List.getElem?_eq_none (by rw [sg_len (by (first | lia | omega))]; (first | lia | omega)), List.getElem?_eq_none (by (first | lia | omega))]
  have fr' : Frm (arrOf st) a' sa (na + nb) := fun i hi => fr i (by (first | lia | omega))
  refine h _ ⟨c1, ?_, c4⟩ c3 ?_ fr'
  ·show a'.toList.Perm _
   refine (perm_of_frm sz' fr ?_).trans K.perm
   rw [em, sg_add, show sa + k + (na - k) = sa + na by (first | lia | omega)]
   exact mp
  ·show (sg a' sa (na + nb)).Pairwise _
   have e1 : sg a' sa k = sg (arrOf st) sa k := sg_congr fun j hj => fr _ (by (first | lia | omega))
   have e2 : sg a' (sa + na + r) (nb - r) = sg (arrOf st) (sa + na + r) (nb - r) := sg_congr fun j hj => fr _ (by (first | lia | omega))
   rw [show na + nb = k + (na - k + r) + (nb - r) by (first | lia | omega), sg_add, sg_add, em, e1, show sa + (k + (na - k + r)) = sa + na + r by (first | lia | omega), e2]
   have mm : ∀ x ∈ m.toList, x ∈ sg (arrOf st) (sa + k) (na - k) \/ x ∈ sg (arrOf st) (sa + na) r := fun x hx => List.mem_append.mp (mp.mem_iff.mp hx)
   have pA1 : (sg (arrOf st) sa k).Pairwise (Le O key) := by rw [eA] at sA; exact (List.pairwise_append.mp sA).1
   have pB2 : (sg (arrOf st) (sa + na + r) (nb - r)).Pairwise (Le O key) := by rw [eB] at sB; exact (List.pairwise_append.mp sB).2.1
   have x0m : ∀ x ∈ m.toList, Le O key x x0 := fun x hx => by
    rcases mm x hx with q | q
    ·exact leX x (by rw [eA]; exact List.mem_append_right _ q)
    ·exact le_of_lt (ltB1 x q)
   have my0 : ∀ x ∈ m.toList, Le O key y0 x := fun x hx => by
    rcases mm x hx with q | q
    ·exact le_of_lt (ltA2 x q)
    ·exact leY x (by rw [eB]; exact List.mem_append_left _ q)
   refine pw_app (pw_app pA1 ms fun x hx y hy => (leA1 x hx).trans (my0 y hy)) pB2 fun x hx y hy => ?_
   rcases List.mem_append.mp hx with q | q
   ·exact (leX x (by rw [eA]; exact List.mem_append_left _ q)).trans (leB2 y hy)
   ·exact (x0m x q).trans (leB2 y hy)
 refine ite_ok (fun _ => wpS_bind (mergeLo_ok L gX gY (by rw [eXs]; exact pA2) (by rw [eYs]; exact pB1) (by rw [szX]; (first | lia | omega)) (by rw [szY]; exact hr0) hf hl K.kind fun m st' F S => ?_)) (fun _ => wpS_bind (mergeHi_ok L gX gY (by rw [eXs]; exact pA2) (by rw [eYs]; exact pB1) (by rw [szX]; (first | lia | omega)) (by rw [szY]; exact hr0) hf hl K.kind fun m st' F S => ?_))
 all_goals
  refine wpS_bind (wpS_modify (wpS_bind (wpS_get (wpS_pure ?_))))
  have this := fin m st' F S.kind S.arr S.pend (S.fail.trans K.fail)
  have ef : failedOf st' = none := S.fail.trans K.fail
  show Q (failedOf st').isNone _
  rw [ef]
  exact this
end
end Ts
namespace Ts
open PySem PyProof.Rows
section
variable {O : KeyOrd} {key : Keyed -> O.α}
noncomputable def kk (key : Keyed -> O.α) (a : Array Keyed) (lo i : Nat) : O.α := key (a[lo + i]?.getD (Value.none, Value.none))
noncomputable def Inc (O : KeyOrd) (key : Keyed -> O.α) (a : Array Keyed) (lo n : Nat) : Prop := ∀ i j, i <= j -> j < n -> O.kle (kk key a lo i) (kk key a lo j)
noncomputable def Dec (O : KeyOrd) (key : Keyed -> O.α) (a : Array Keyed) (lo n : Nat) : Prop := ∀ i j, i <= j -> j < n -> O.kle (kk key a lo j) (kk key a lo i)
theorem kk_congr {a b : Array Keyed} {lo i j : Nat} (h : a[lo + i]? = b[lo + j]?) : kk key a lo i = kk key b lo j := by
 unfold kk
 rw [h]
theorem inc_one (a : Array Keyed) (lo : Nat) {n : Nat} (h : n <= 1) : Inc O key a lo n := fun i j hij hj => (show i = j by (first | lia | omega)) ▸ O.irrefl _
theorem inc_snoc {a : Array Keyed} {lo n : Nat} (h : Inc O key a lo n) (hn : 1 <= n) (e : O.blt (kk key a lo n) (kk key a lo (n - 1)) = false) : Inc O key a lo (n + 1) := fun i j hij hj => by
 rcases Nat.lt_or_ge j n with q | q
 ·exact h i j hij q
 obtain rfl : j = n := by (first | lia | omega)
 rcases Nat.lt_or_ge i j with z | z
 ·exact KeyOrd.kle_trans (h i (j - 1) (by (first | lia | omega)) (by (first | lia | omega))) e
 ·obtain rfl : i = j := by (first | lia | omega)
  exact O.irrefl _
theorem dec_snoc {a : Array Keyed} {lo n : Nat} (h : Dec O key a lo n) (hn : 1 <= n) (e : O.kle (kk key a lo n) (kk key a lo (n - 1))) : Dec O key a lo (n + 1) := fun i j hij hj => by
 rcases Nat.lt_or_ge j n with q | q
 ·exact h i j hij q
 obtain rfl : j = n := by (first | lia | omega)
 rcases Nat.lt_or_ge i j with z | z
 ·exact KeyOrd.kle_trans e (h i (j - 1) (by (first | lia | omega)) (by (first | lia | omega)))
 ·obtain rfl : i = j := by (first | lia | omega)
  exact O.irrefl _
theorem dec_congr {a b : Array Keyed} {lo n : Nat} (h : Dec O key a lo n) (e : ∀ k, kk key b lo k = kk key a lo k) : Dec O key b lo n := fun i j hij hj => by
 rw [e, e]
 exact h i j hij hj
theorem inc_seg {a : Array Keyed} {lo n : Nat} (h : Inc O key a lo n) : (sg a lo n).Pairwise (Le O key) := by
 rw [List.pairwise_iff_getElem]
 intro i j hi hj hij
 have li : (sg a lo n).length <= n := by unfold sg; rw [List.length_take]; (first | lia | omega)
 have hi' : i < n := by (first | lia | omega)
 have hj' : j < n := by (first | lia | omega)
 have ei : a[lo + i]? = some (sg a lo n)[i] := (sg_get hi').symm.trans (List.getElem?_eq_getElem hi)
 have ej : a[lo + j]? = some (sg a lo n)[j] := (sg_get hj').symm.trans (List.getElem?_eq_getElem hj)
 have := h i j (Nat.le_of_lt hij) hj'
 unfold kk at this
 rw [ei, ej] at this
 exact this
theorem kk_mir {a : Array Keyed} {lo x y : Nat} (h : lo + y <= a.size) (k : Nat) : kk key (mirror a (lo + x) (lo + y) ((lo + y - (lo + x)) / 2)) lo k = if x <= k /\ k < y then kk key a lo (x + y - 1 - k) else kk key a lo k := by
 have e := getElem?_mirror_all (i := lo + x) h (lo + k)
 by_cases c : x <= k /\ k < y
 ·rw [if_pos (by (first | lia | omega))] at e
  rw [if_pos c]
  refine kk_congr (e.trans ?_)
  congr 1; (first | lia | omega)
 ·rw [if_neg (by (first | lia | omega))] at e
  rw [if_neg c]
  exact kk_congr e
theorem kk_mir_eq {a : Array Keyed} {lo x y : Nat} (h : lo + y <= a.size) (he : ∀ k, x <= k -> k < y -> kk key a lo k = kk key a lo (y - 1)) (k : Nat) : kk key (mirror a (lo + x) (lo + y) ((lo + y - (lo + x)) / 2)) lo k = kk key a lo k := by
 rw [kk_mir h]
 split
 ·rw [he _ (by (first | lia | omega)) (by (first | lia | omega)), he k (by (first | lia | omega)) (by (first | lia | omega))]
 ·rfl
theorem kk_bub {a : Array Keyed} {lo k l : Nat} (h : lo + k < a.size) (hl : l <= k) (i : Nat) : kk key (bubble a (lo + k) (lo + k - (lo + l))) lo i = if i = l then kk key a lo k else if l < i /\ i <= k then kk key a lo (i - 1) else kk key a lo i := by
 have e := getElem?_bubble h (lo + k - (lo + l)) (by (first | lia | omega)) (lo + i)
 by_cases c : i = l
 ·rw [if_pos (by (first | lia | omega))] at e
  rw [if_pos c]
  exact kk_congr e
 ·rw [if_neg (by (first | lia | omega))] at e
  rw [if_neg c]
  by_cases c2 : l < i /\ i <= k
  ·rw [if_pos (by (first | lia | omega))] at e
   rw [if_pos c2]
   refine kk_congr (e.trans ?_)
   congr 1; (first | lia | omega)
  ·rw [if_neg (by (first | lia | omega))] at e
   rw [if_neg c2]
   exact kk_congr e
end
section
variable {prog : Program} {w : World} {A : Around} {E : Value -> Shared -> Prop} {s : Shared} {κ : SortKind} {O : KeyOrd} {key : Keyed -> O.α} {Good : Keyed -> Prop} {a₀ : Array Keyed}
structure Cr (κ : SortKind) (a₀ : Array Keyed) (st0 : SortSt) (lo nrem : Nat) (st : SortSt) : Prop where
 kp : Kp κ a₀ st
 pend : pendingOf st = pendingOf st0
 frm : Frm (arrOf st0) (arrOf st) lo nrem
theorem Cr.mir {st0 st : SortSt} {lo nrem x y : Nat} (C : Cr κ a₀ st0 lo nrem st) (h : y <= nrem) (hs : lo + nrem <= a₀.size) : Cr κ a₀ st0 lo nrem (setArr st (mirror (arrOf st) (lo + x) (lo + y) ((lo + y - (lo + x)) / 2))) :=
 ⟨⟨C.kp.kind, (Array.perm_iff_toList_perm.mp (mirror_perm _ _ _ _)).trans C.kp.perm, C.kp.fail⟩, C.pend, C.frm.trans fun i hi => by
  show (mirror (arrOf st) (lo + x) (lo + y) ((lo + y - (lo + x)) / 2))[i]? = _
  rw [getElem?_mirror_all (by rw [C.kp.size]; (first | lia | omega)), if_neg (by (first | lia | omega))]⟩
theorem Cr.bub {st0 st : SortSt} {lo nrem k l : Nat} (C : Cr κ a₀ st0 lo nrem st) (hl : l <= k) (h : k < nrem) (hs : lo + nrem <= a₀.size) : Cr κ a₀ st0 lo nrem (setArr st (bubble (arrOf st) (lo + k) (lo + k - (lo + l)))) :=
 ⟨⟨C.kp.kind, (Array.perm_iff_toList_perm.mp (bubble_perm _ _ _)).trans C.kp.perm, C.kp.fail⟩, C.pend, C.frm.trans fun i hi => by
  show (bubble (arrOf st) (lo + k) (lo + k - (lo + l)))[i]? = _
  rw [getElem?_bubble (by rw [C.kp.size]; (first | lia | omega)) _ (by (first | lia | omega)), if_neg (by (first | lia | omega)), if_neg (by (first | lia | omega))]⟩
theorem ltAt_ok {st : SortSt} {lo i j i' j' : Nat} {Q : Option Bool -> SortSt -> Prop} (L : LtOk prog w A E s κ O key Good) (g : ∀ x ∈ a₀.toList, Good x) (K : Kp κ a₀ st) (ei : i' = lo + i) (ej : j' = lo + j) (hi : lo + i < a₀.size) (hj : lo + j < a₀.size)
  (h : Q (some (O.blt (kk key (arrOf st) lo i) (kk key (arrOf st) lo j))) st) : wpS (model prog w) A E s (ltAt' i' j') Q st := by
 subst ei; subst ej
 obtain ⟨x, ex, gx⟩ := K.good g hi
 obtain ⟨y, ey, gy⟩ := K.good g hj
 unfold kk at h
 rw [ex, ey] at h
 rw [ltAt'_eq]
 refine wpS_bind (wpS_get ?_)
 refine wpS_bind (elem_ok ex ?_)
 refine wpS_bind (elem_ok ey ?_)
 exact L x y gx gy Q st K.kind h
theorem asc_ok {st : SortSt} {lo a nrem : Nat} {f : Nat -> Option (Option Nat) × Nat -> StateT SortSt Sem (ForInStep (Option (Option Nat) × Nat))} {Q : Option (Option Nat) × Nat -> SortSt -> Prop} (ha : 1 <= a) (han : a <= nrem)
  (hf : ∀ x n (R : ForInStep (Option (Option Nat) × Nat) -> SortSt -> Prop), 1 <= n -> n < nrem -> (O.blt (kk key (arrOf st) lo n) (kk key (arrOf st) lo (n - 1)) = true -> R (.done (none, n)) st) -> (O.blt (kk key (arrOf st) lo n) (kk key (arrOf st) lo (n - 1)) = false -> R (.yield (none, n + 1)) st) -> wpS (model prog w) A E s (f x (none, n)) R st)
  (hs : Inc O key (arrOf st) lo a) (h : ∀ n, a <= n -> n <= nrem -> Inc O key (arrOf st) lo n -> (n = nrem \/ O.klt (kk key (arrOf st) lo n) (kk key (arrOf st) lo (n - 1))) -> Q (none, n) st) :
  wpS (model prog w) A E s (forIn [a:nrem] (none, a) f) Q st := by
 refine wpS_forRange (I := fun x c z => z = st /\ c = (none, x) /\ Inc O key (arrOf st) lo x) (fun x c z l1 l2 => ?_) (fun c z => ?_) ⟨rfl, rfl, hs⟩
 ·rintro ⟨rfl, rfl, up⟩
  exact hf x x _ (by (first | lia | omega)) l2 (fun e => h x l1 (by (first | lia | omega)) up (.inr e)) fun e => ⟨rfl, rfl, inc_snoc up (by (first | lia | omega)) e⟩
 ·rintro ⟨rfl, rfl, up⟩
  obtain e : max a nrem = nrem := by (first | lia | omega)
  rw [e] at up ⊢
  exact h nrem han (Nat.le_refl nrem) up (.inl rfl)
theorem desc_ok {st0 st : SortSt} {lo a nrem : Nat} {f : Nat -> Option (Option Nat) × Nat × Nat -> StateT SortSt Sem (ForInStep (Option (Option Nat) × Nat × Nat))} {Q : Option (Option Nat) × Nat × Nat -> SortSt -> Prop} (hz : lo + nrem <= a₀.size) (ha : 1 <= a) (han : a <= nrem)
  (C : Cr κ a₀ st0 lo nrem st)
  (hf : ∀ x n neq st' (R : ForInStep (Option (Option Nat) × Nat × Nat) -> SortSt -> Prop), Cr κ a₀ st0 lo nrem st' -> 1 <= n -> n < nrem -> neq + 1 <= n →
   (O.blt (kk key (arrOf st') lo n) (kk key (arrOf st') lo (n - 1)) = true -> neq > 0 -> R (.yield (none, n + 1, 0)) (setArr st' (mirror (arrOf st') (lo + (n - (neq + 1))) (lo + n) ((lo + n - (lo + (n - (neq + 1)))) / 2)))) →
   (O.blt (kk key (arrOf st') lo n) (kk key (arrOf st') lo (n - 1)) = true -> ¬ neq > 0 -> R (.yield (none, n + 1, 0)) st') →
   (O.blt (kk key (arrOf st') lo n) (kk key (arrOf st') lo (n - 1)) = false -> O.blt (kk key (arrOf st') lo (n - 1)) (kk key (arrOf st') lo n) = true -> R (.done (none, n, neq)) st') →
   (O.blt (kk key (arrOf st') lo n) (kk key (arrOf st') lo (n - 1)) = false -> O.blt (kk key (arrOf st') lo (n - 1)) (kk key (arrOf st') lo n) = false -> R (.yield (none, n + 1, neq + 1)) st') →
   wpS (model prog w) A E s (f x (none, n, neq)) R st')
  (hs : Dec O key (arrOf st) lo a)
  (h : ∀ m neq st', Cr κ a₀ st0 lo nrem st' -> a <= m -> m <= nrem -> Dec O key (arrOf st') lo m -> neq + 1 <= m -> (∀ i, m - (neq + 1) <= i -> i < m -> kk key (arrOf st') lo i = kk key (arrOf st') lo (m - 1)) -> Q (none, m, neq) st') :
  wpS (model prog w) A E s (forIn [a:nrem] (none, a, 0) f) Q st := by
 refine wpS_forRange (I := fun x c z => ∃ m, c = (none, x, m) /\ Cr κ a₀ st0 lo nrem z /\ Dec O key (arrOf z) lo x /\ m + 1 <= x /\ ∀ i, x - (m + 1) <= i -> i < x -> kk key (arrOf z) lo i = kk key (arrOf z) lo (x - 1))
  (fun x c z l1 l2 => ?_) (fun c z => ?_) ⟨0, rfl, C, hs, ha, fun i _ _ => by congr 1; (first | lia | omega)⟩
 ·rintro ⟨m, rfl, C', dn, lm, sm⟩
  have fits : lo + x <= (arrOf z).size := by rw [C'.kp.size]; (first | lia | omega)
  have last : ∀ (b : Array Keyed) i, x + 1 - (0 + 1) <= i -> i < x + 1 -> kk key b lo i = kk key b lo (x + 1 - 1) := fun b i _ _ => by congr 1; (first | lia | omega)
  refine hf x x m z _ C' (by (first | lia | omega)) l2 lm (fun e q => ⟨0, rfl, C'.mir (by (first | lia | omega)) hz, ?_, by (first | lia | omega), last _⟩) (fun e q => ⟨0, rfl, C', dec_snoc dn (by (first | lia | omega)) (KeyOrd.kle_of_klt e), by (first | lia | omega), last _⟩) (fun e q => h x m z C' l1 (by (first | lia | omega)) dn lm sm) (fun e q => ?_)
  ·exact dec_congr (dec_snoc dn (by (first | lia | omega)) (KeyOrd.kle_of_klt e)) (kk_mir_eq fits sm)
  ·have same : kk key (arrOf z) lo x = kk key (arrOf z) lo (x - 1) := KeyOrd.kle_antisymm q e
   refine ⟨m + 1, rfl, C', dec_snoc dn (by (first | lia | omega)) q, by (first | lia | omega), fun i i1 i2 => ?_⟩
   rw [Nat.add_sub_cancel]
   rcases Nat.lt_or_ge i x with y | y
   ·exact (sm i (by (first | lia | omega)) y).trans same.symm
   ·obtain rfl : i = x := by (first | lia | omega)
    rfl
 ·rintro ⟨m, rfl, C', dn, lm, sm⟩
  obtain e : max a nrem = nrem := by (first | lia | omega)
  rw [e] at dn lm sm ⊢
  exact h nrem m z C' han (Nat.le_refl nrem) dn lm sm
theorem countRun_ok {st : SortSt} {lo nrem : Nat} {Q : Option Nat -> SortSt -> Prop} (L : LtOk prog w A E s κ O key Good) (g : ∀ x ∈ a₀.toList, Good x) (K : Kp κ a₀ st) (h1 : 1 <= nrem) (hz : lo + nrem <= a₀.size)
  (h : ∀ m st', Cr κ a₀ st lo nrem st' -> 1 <= m -> m <= nrem -> Inc O key (arrOf st') lo m -> Q (some m) st') : wpS (model prog w) A E s (countRun' lo nrem) Q st := by
 have C0 : Cr κ a₀ st lo nrem st := ⟨K, rfl, Frm.refl _ _ _⟩
 have stp : ∀ st' n (R : Option Bool -> SortSt -> Prop), Kp κ a₀ st' -> 1 <= n -> n < nrem -> (∀ b, O.blt (kk key (arrOf st') lo n) (kk key (arrOf st') lo (n - 1)) = b -> R (some b) st') -> wpS (model prog w) A E s (ltAt' (lo + n) (lo + n - 1)) R st' := fun st' n R K' a b hR =>
  ltAt_ok (key := key) L g K' rfl (show lo + n - 1 = lo + (n - 1) by (first | lia | omega)) (by (first | lia | omega)) (by (first | lia | omega)) (hR _ rfl)
 unfold countRun'
 refine wpS_bind (asc_ok (key := key) (lo := lo) (Nat.le_refl 1) h1 (fun x n R a b r1 r2 => wpS_bind (stp st n _ K a b fun c e => ?_)) (inc_one _ _ (Nat.le_refl 1)) fun n n1 n2 hs hor => ?_)
 ·cases c with
  | true => exact wpS_pure (r1 e)
  | false => exact wpS_pure (r2 e)
 dsimp only
 refine ite_ok (fun e => wpS_pure (h n st C0 n1 n2 hs)) fun e => ?_
 have hlt : O.klt (kk key (arrOf st) lo n) (kk key (arrOf st) lo (n - 1)) := hor.resolve_left (ne_of_beq e)
 have hnn : n < nrem := by have := ne_of_beq e; (first | lia | omega)
 refine ite_ok (fun hgt => ?_) (fun hgt => ?_)
 ·refine wpS_bind (ltAt_ok (key := key) L g K (show lo = lo + 0 from rfl) (show lo + n - 1 = lo + (n - 1) by (first | lia | omega)) (by (first | lia | omega)) (by (first | lia | omega)) ?_)
  dsimp only
  refine ite_ok (fun _ => wpS_pure (h n st C0 n1 n2 hs)) fun hrose => ?_
  have hsz : lo + n <= (arrOf st).size := by rw [K.size]; (first | lia | omega)
  have hall : ∀ k, 0 <= k -> k < n -> kk key (arrOf st) lo k = kk key (arrOf st) lo (n - 1) := by
   intro k _ hk
   have a1 := hs 0 k (by (first | lia | omega)) hk
   have a2 := hs k (n - 1) (by (first | lia | omega)) (by (first | lia | omega))
   have a3 : O.kle (kk key (arrOf st) lo (n - 1)) (kk key (arrOf st) lo 0) := by
    have z : O.blt (kk key (arrOf st) lo 0) (kk key (arrOf st) lo (n - 1)) = false := by simpa using hrose
    exact z
   exact KeyOrd.kle_antisymm a2 (KeyOrd.kle_trans a3 a1)
  refine wpS_bind (wpS_reverse ?_)
  have C1 := C0.mir (x := 0) (y := n) n2 hz
  have flat : Dec O key (arrOf st) lo n := fun i j hij hj => by
   rw [hall i (Nat.zero_le i) (by (first | lia | omega)), hall j (Nat.zero_le j) hj]
   exact O.irrefl _
  have D1 : Dec O key (arrOf (setArr st (mirror (arrOf st) (lo + 0) (lo + n) ((lo + n - (lo + 0)) / 2)))) lo (n + 1) := dec_congr (dec_snoc flat n1 (KeyOrd.kle_of_klt hlt)) (kk_mir_eq hsz hall)
  change wpS (model prog w) A E s _ Q (setArr st (mirror (arrOf st) (lo + 0) (lo + n) ((lo + n - (lo + 0)) / 2)))
  revert C1 D1
  generalize setArr st (mirror (arrOf st) (lo + 0) (lo + n) ((lo + n - (lo + 0)) / 2)) = st1
  intro C1 D1
  refine wpS_bind (wpS_lift (wpAny_rule ⟨rfl, ?_⟩))
  refine wpS_bind (desc_ok (key := key) hz (by (first | lia | omega)) (by (first | lia | omega)) C1 (fun x n neq st' R C' a b c r1 r2 r3 r4 => wpS_bind (stp st' n _ C'.kp a b fun c1 e1 => ?_)) D1 fun m neq st2 C2 m1 m2 D2 q1 q2 => ?_)
  ·cases c1 with
   | true =>
    dsimp only
    rw [if_pos rfl]
    refine ite_ok (fun hq => wpS_bind (wpS_reverse (wpS_pure ?_))) fun hq => wpS_pure (r2 e1 hq)
    rw [show lo + n - (neq + 1) = lo + (n - (neq + 1)) by (first | lia | omega)]
    exact r1 e1 hq
   | false =>
    dsimp only
    rw [if_neg Bool.false_ne_true]
    refine wpS_bind (ltAt_ok (key := key) L g C'.kp (show lo + n - 1 = lo + (n - 1) by (first | lia | omega)) rfl (by (first | lia | omega)) (by (first | lia | omega)) ?_)
    dsimp only
    exact ite_ok (fun hq => wpS_pure (r3 e1 hq)) fun hq => wpS_pure (r4 e1 (by simpa using hq))
  ·dsimp only
   have hsz2 : lo + m <= (arrOf st2).size := by rw [C2.kp.size]; (first | lia | omega)
   have tl : ∀ st3, Cr κ a₀ st lo nrem st3 -> Dec O key (arrOf st3) lo m -> Inc O key (arrOf (setArr st3 (mirror (arrOf st3) (lo + 0) (lo + m) ((lo + m - (lo + 0)) / 2)))) lo m := fun st3 C3 D3 i j hij hj => by
    show O.kle (kk key (mirror (arrOf st3) _ _ _) lo i) (kk key (mirror (arrOf st3) _ _ _) lo j)
    have hsz3 : lo + m <= (arrOf st3).size := by rw [C3.kp.size]; (first | lia | omega)
    rw [kk_mir hsz3, kk_mir hsz3, if_pos (by (first | lia | omega)), if_pos (by (first | lia | omega))]
    exact D3 _ _ (by (first | lia | omega)) (by (first | lia | omega))
   refine ite_ok (fun hq => wpS_bind (wpS_reverse ?_)) (fun hq => ?_)
   ·have C3 := C2.mir (x := m - (neq + 1)) (y := m) m2 hz
    rw [show lo + m - (neq + 1) = lo + (m - (neq + 1)) by (first | lia | omega)]
    have D3 : Dec O key (arrOf (setArr st2 (mirror (arrOf st2) (lo + (m - (neq + 1))) (lo + m) ((lo + m - (lo + (m - (neq + 1)))) / 2)))) lo m := dec_congr D2 (kk_mir_eq hsz2 q2)
    revert C3 D3
    generalize setArr st2 (mirror (arrOf st2) (lo + (m - (neq + 1))) (lo + m) ((lo + m - (lo + (m - (neq + 1)))) / 2)) = st3
    intro C3 D3
    refine wpS_bind (wpS_reverse ?_)
    have C4 := Cr.mir (x := 0) C3 m2 hz
    have D4 := tl st3 C3 D3
    refine wpS_bind (asc_ok (key := key) (lo := lo) (st := setArr st3 (mirror (arrOf st3) (lo + 0) (lo + m) ((lo + m - (lo + 0)) / 2))) (by (first | lia | omega)) m2 (fun x n R a b r1 r2 => wpS_bind (stp _ n _ C4.kp a b fun c e => ?_)) D4 fun n n1 n2 hs hor => wpS_pure (h n _ C4 (by (first | lia | omega)) n2 hs))
    cases c with
    | true => exact wpS_pure (r1 e)
    | false => exact wpS_pure (r2 e)
   ·refine wpS_bind (wpS_reverse ?_)
    have C4 := Cr.mir (x := 0) C2 m2 hz
    have D4 := tl st2 C2 D2
    refine wpS_bind (asc_ok (key := key) (lo := lo) (st := setArr st2 (mirror (arrOf st2) (lo + 0) (lo + m) ((lo + m - (lo + 0)) / 2))) (by (first | lia | omega)) m2 (fun x n R a b r1 r2 => wpS_bind (stp _ n _ C4.kp a b fun c e => ?_)) D4 fun n n1 n2 hs hor => wpS_pure (h n _ C4 (by (first | lia | omega)) n2 hs))
    cases c with
    | true => exact wpS_pure (r1 e)
    | false => exact wpS_pure (r2 e)
 ·have hn1' : n = 1 := by (first | lia | omega)
  subst hn1'
  have C1 := C0
  have D1 : Dec O key (arrOf st) lo (1 + 1) := dec_snoc (fun i j hij hj => (show i = j by (first | lia | omega)) ▸ O.irrefl _) (Nat.le_refl 1) (KeyOrd.kle_of_klt hlt)
  refine wpS_bind (wpS_lift (wpAny_rule ⟨rfl, ?_⟩))
  refine wpS_bind (desc_ok (key := key) hz (by (first | lia | omega)) (by (first | lia | omega)) C1 (fun x n neq st' R C' a b c r1 r2 r3 r4 => wpS_bind (stp st' n _ C'.kp a b fun c1 e1 => ?_)) D1 fun m neq st2 C2 m1 m2 D2 q1 q2 => ?_)
  ·cases c1 with
   | true =>
    dsimp only
    rw [if_pos rfl]
    refine ite_ok (fun hq => wpS_bind (wpS_reverse (wpS_pure ?_))) fun hq => wpS_pure (r2 e1 hq)
    rw [show lo + n - (neq + 1) = lo + (n - (neq + 1)) by (first | lia | omega)]
    exact r1 e1 hq
   | false =>
    dsimp only
    rw [if_neg Bool.false_ne_true]
    refine wpS_bind (ltAt_ok (key := key) L g C'.kp (show lo + n - 1 = lo + (n - 1) by (first | lia | omega)) rfl (by (first | lia | omega)) (by (first | lia | omega)) ?_)
    dsimp only
    exact ite_ok (fun hq => wpS_pure (r3 e1 hq)) fun hq => wpS_pure (r4 e1 (by simpa using hq))
  ·dsimp only
   have hsz2 : lo + m <= (arrOf st2).size := by rw [C2.kp.size]; (first | lia | omega)
   have tl : ∀ st3, Cr κ a₀ st lo nrem st3 -> Dec O key (arrOf st3) lo m -> Inc O key (arrOf (setArr st3 (mirror (arrOf st3) (lo + 0) (lo + m) ((lo + m - (lo + 0)) / 2)))) lo m := fun st3 C3 D3 i j hij hj => by
    show O.kle (kk key (mirror (arrOf st3) _ _ _) lo i) (kk key (mirror (arrOf st3) _ _ _) lo j)
    have hsz3 : lo + m <= (arrOf st3).size := by rw [C3.kp.size]; (first | lia | omega)
    rw [kk_mir hsz3, kk_mir hsz3, if_pos (by (first | lia | omega)), if_pos (by (first | lia | omega))]
    exact D3 _ _ (by (first | lia | omega)) (by (first | lia | omega))
   refine ite_ok (fun hq => wpS_bind (wpS_reverse ?_)) (fun hq => ?_)
   ·have C3 := C2.mir (x := m - (neq + 1)) (y := m) m2 hz
    rw [show lo + m - (neq + 1) = lo + (m - (neq + 1)) by (first | lia | omega)]
    have D3 : Dec O key (arrOf (setArr st2 (mirror (arrOf st2) (lo + (m - (neq + 1))) (lo + m) ((lo + m - (lo + (m - (neq + 1)))) / 2)))) lo m := dec_congr D2 (kk_mir_eq hsz2 q2)
    revert C3 D3
    generalize setArr st2 (mirror (arrOf st2) (lo + (m - (neq + 1))) (lo + m) ((lo + m - (lo + (m - (neq + 1)))) / 2)) = st3
    intro C3 D3
    refine wpS_bind (wpS_reverse ?_)
    have C4 := Cr.mir (x := 0) C3 m2 hz
    have D4 := tl st3 C3 D3
    refine wpS_bind (asc_ok (key := key) (lo := lo) (st := setArr st3 (mirror (arrOf st3) (lo + 0) (lo + m) ((lo + m - (lo + 0)) / 2))) (by (first | lia | omega)) m2 (fun x n R a b r1 r2 => wpS_bind (stp _ n _ C4.kp a b fun c e => ?_)) D4 fun n n1 n2 hs hor => wpS_pure (h n _ C4 (by (first | lia | omega)) n2 hs))
    cases c with
    | true => exact wpS_pure (r1 e)
    | false => exact wpS_pure (r2 e)
   ·refine wpS_bind (wpS_reverse ?_)
    have C4 := Cr.mir (x := 0) C2 m2 hz
    have D4 := tl st2 C2 D2
    refine wpS_bind (asc_ok (key := key) (lo := lo) (st := setArr st2 (mirror (arrOf st2) (lo + 0) (lo + m) ((lo + m - (lo + 0)) / 2))) (by (first | lia | omega)) m2 (fun x n R a b r1 r2 => wpS_bind (stp _ n _ C4.kp a b fun c e => ?_)) D4 fun n n1 n2 hs hor => wpS_pure (h n _ C4 (by (first | lia | omega)) n2 hs))
    cases c with
    | true => exact wpS_pure (r1 e)
    | false => exact wpS_pure (r2 e)
theorem binarySort_ok {st : SortSt} {lo n ok : Nat} {Q : Bool -> SortSt -> Prop} (L : LtOk prog w A E s κ O key Good) (g : ∀ x ∈ a₀.toList, Good x) (K : Kp κ a₀ st) (hz : lo + n <= a₀.size) (hok : ok <= n) (hs : Inc O key (arrOf st) lo ok)
  (h : ∀ st', Cr κ a₀ st lo n st' -> Inc O key (arrOf st') lo n -> Q true st') : wpS (model prog w) A E s (binarySort' lo n ok) Q st := by
 unfold binarySort'
 refine wpS_bind (wpS_mono (wpS_forRange (I := fun x c z => c = (none, ()) /\ Cr κ a₀ st lo n z /\ Inc O key (arrOf z) lo (min x n)) (Q := fun c z => c = (none, ()) /\ Cr κ a₀ st lo n z /\ Inc O key (arrOf z) lo n) (fun k c z l1 l2 => ?_) (fun c z => ?_) ⟨rfl, ⟨K, rfl, Frm.refl _ _ _⟩, ?_⟩) fun c z => ?_)
 ·rintro ⟨rfl, C, up⟩
  obtain ek : min k n = k := by (first | lia | omega)
  rw [ek] at up
  obtain ⟨kf, kn⟩ : lo + k < a₀.size /\ lo + k < (arrOf z).size := ⟨by (first | lia | omega), by rw [C.kp.size]; (first | lia | omega)⟩
  refine wpS_bind (wpS_mono (wpS_forRange
   (I := fun x c y => y = z /\ ∃ u v, c = (none, u, v) /\ u <= v /\ v <= k /\ v - u + x <= k /\ (∀ i, i < u -> O.kle (kk key (arrOf z) lo i) (kk key (arrOf z) lo k)) /\ ∀ i, v <= i -> i < k -> O.klt (kk key (arrOf z) lo k) (kk key (arrOf z) lo i))
   (Q := fun c y => y = z /\ ∃ u v, c = (none, u, v) /\ u <= k /\ (∀ i, i < u -> O.kle (kk key (arrOf z) lo i) (kk key (arrOf z) lo k)) /\ ∀ i, u <= i -> i < k -> O.klt (kk key (arrOf z) lo k) (kk key (arrOf z) lo i))
   (fun x c y _ l3 => ?_) (fun c y => ?_) ⟨rfl, 0, k, rfl, Nat.zero_le k, Nat.le_refl k, by (first | lia | omega), fun _ q => absurd q (Nat.not_lt_zero _), fun _ q1 q2 => absurd q2 (by (first | lia | omega))⟩) fun c y => ?_)
  ·rintro ⟨rfl, u, v, rfl, uv, vk, le, below, above⟩
   dsimp only
   refine ite_ok (fun q => ?_) (fun q => wpS_bind (ltAt_ok (key := key) L g C.kp rfl rfl kf (by (first | lia | omega)) ?_))
   ·obtain rfl : u = v := by (first | lia | omega)
    exact wpS_pure ⟨rfl, u, u, rfl, vk, below, above⟩
   ·dsimp only
    refine ite_ok (fun q2 => wpS_pure ⟨rfl, u, (u + v) / 2, rfl, by (first | lia | omega), by (first | lia | omega), by (first | lia | omega), below, fun i i1 i2 => KeyOrd.klt_of_klt_of_kle q2 (up _ i i1 i2)⟩) (fun q2 => wpS_pure ⟨rfl, (u + v) / 2 + 1, v, rfl, by (first | lia | omega), by (first | lia | omega), by (first | lia | omega), fun i i1 => ?_, above⟩)
    refine KeyOrd.kle_trans (up i ((u + v) / 2) (by (first | lia | omega)) (by (first | lia | omega))) ?_
    exact KeyOrd.kle_of_not_klt q2
  ·rintro ⟨rfl, u, v, rfl, uv, vk, le, below, above⟩
   obtain rfl : u = v := by (first | lia | omega)
   exact ⟨rfl, u, u, rfl, vk, below, above⟩
  ·rintro ⟨rfl, u, v, rfl, uk, below, above⟩
   refine wpS_bind (wpS_modify (wpS_pure ⟨rfl, C.bub uk l2 hz, ?_⟩))
   obtain e1 : min (k + 1) n = k + 1 := by (first | lia | omega)
   rw [e1]
   intro i j hij hj
   show O.kle (kk key (bubble (arrOf y) (lo + k) (lo + k - (lo + u))) lo i) (kk key (bubble (arrOf y) (lo + k) (lo + k - (lo + u))) lo j)
   rw [kk_bub kn uk, kk_bub kn uk]
   rcases Nat.lt_trichotomy i u with iu | iu | iu
   ·rw [if_neg (by (first | lia | omega)), if_neg (by (first | lia | omega))]
    rcases Nat.lt_trichotomy j u with ju | ju | ju
    ·rw [if_neg (by (first | lia | omega)), if_neg (by (first | lia | omega))]
     exact up i j hij (by (first | lia | omega))
    ·rw [if_pos ju]
     exact below i iu
    ·rw [if_neg (by (first | lia | omega)), if_pos (by (first | lia | omega))]
     exact up i (j - 1) (by (first | lia | omega)) (by (first | lia | omega))
   ·rw [if_pos iu]
    rcases Nat.lt_or_ge u j with ju | ju
    ·rw [if_neg (by (first | lia | omega)), if_pos (by (first | lia | omega))]
     exact KeyOrd.kle_of_klt (above (j - 1) (by (first | lia | omega)) (by (first | lia | omega)))
    ·rw [if_pos (by (first | lia | omega))]
     exact O.irrefl _
   ·rw [if_neg (by (first | lia | omega)), if_pos (by (first | lia | omega)), if_neg (by (first | lia | omega)), if_pos (by (first | lia | omega))]
    exact up (i - 1) (j - 1) (by (first | lia | omega)) (by (first | lia | omega))
 ·rintro ⟨e, C, up⟩
  obtain e1 : min (max (max ok 1) n) n = n := by (first | lia | omega)
  rw [e1] at up
  exact ⟨e, C, up⟩
 ·rcases Nat.lt_or_ge ok 1 with q | q
  ·exact inc_one _ _ (by (first | lia | omega))
  ·obtain e1 : min (max ok 1) n = ok := by (first | lia | omega)
   rw [e1]
   exact hs
 ·rintro ⟨rfl, C, up⟩
  exact wpS_pure (h z C up)
end
end Ts
namespace Ts
open PySem PyProof.Rows
noncomputable def rl (p : Array (Nat × Nat × Nat)) : List (Nat × Nat) := p.toList.map fun t => (t.1, t.2.1)
section
variable {O : KeyOrd} {key : Keyed -> O.α}
noncomputable def Rn (O : KeyOrd) (key : Keyed -> O.α) (a : Array Keyed) : Nat -> List (Nat × Nat) -> Nat -> Prop
 | lo, [], hi => lo = hi
 | lo, t :: l, hi => t.1 = lo /\ 0 < t.2 /\ (sg a lo t.2).Pairwise (Le O key) /\ Rn O key a (lo + t.2) l hi
theorem Rn.le {a : Array Keyed} : ∀ {l : List (Nat × Nat)} {lo hi : Nat}, Rn O key a lo l hi -> lo + l.length <= hi
 | [], _, _, h => Nat.le_of_eq h
 | _ :: l, _, _, ⟨_, h2, _, h4⟩ => by
  have := Rn.le h4
  rw [List.length_cons]
  (first | lia | omega)
theorem Rn.keep {a b : Array Keyed} : ∀ {l : List (Nat × Nat)} {lo hi : Nat}, Rn O key a lo l hi -> (∀ i, lo <= i -> i < hi -> b[i]? = a[i]?) -> Rn O key b lo l hi
 | [], _, _, h, _ => h
 | t :: l, lo, hi, ⟨h1, h2, h3, h4⟩, e => by
  have := Rn.le h4
  refine ⟨h1, h2, ?_, Rn.keep h4 fun i i1 i2 => e i (by (first | lia | omega)) i2⟩
  rw [sg_congr (b := a) fun i hi => e _ (by (first | lia | omega)) (by (first | lia | omega))]
  exact h3
theorem Rn.app {a : Array Keyed} : ∀ {l m : List (Nat × Nat)} {lo mid hi : Nat}, Rn O key a lo l mid -> Rn O key a mid m hi -> Rn O key a lo (l ++ m) hi
 | [], _, _, _, _, h, k => by cases h; exact k
 | _ :: l, _, _, _, _, ⟨h1, h2, h3, h4⟩, k => ⟨h1, h2, h3, Rn.app h4 k⟩
theorem Rn.split {a : Array Keyed} : ∀ {l m : List (Nat × Nat)} {lo hi : Nat}, Rn O key a lo (l ++ m) hi -> ∃ mid, Rn O key a lo l mid /\ Rn O key a mid m hi
 | [], _, lo, _, h => ⟨lo, rfl, h⟩
 | _ :: l, _, _, _, ⟨h1, h2, h3, h4⟩ => by
  obtain ⟨mid, q1, q2⟩ := Rn.split h4
  exact ⟨mid, ⟨h1, h2, h3, q1⟩, q2⟩
theorem Rn.push {a b : Array Keyed} {l : List (Nat × Nat)} {lo hi n : Nat} (h : Rn O key a lo l hi) (e : ∀ i, lo <= i -> i < hi -> b[i]? = a[i]?) (hn : 0 < n) (hs : (sg b hi n).Pairwise (Le O key)) : Rn O key b lo (l ++ [(hi, n)]) (hi + n) :=
 Rn.app (h.keep e) ⟨rfl, hn, hs, rfl⟩
theorem rl_push (p : Array (Nat × Nat × Nat)) (t : Nat × Nat × Nat) : rl (p.push t) = rl p ++ [(t.1, t.2.1)] := by
 unfold rl
 rw [Array.toList_push, List.map_append]
 rfl
theorem rl_len (p : Array (Nat × Nat × Nat)) : (rl p).length = p.size := by
 unfold rl
 rw [List.length_map, Array.length_toList]
theorem rl_mod (p : Array (Nat × Nat × Nat)) (i : Nat) (f : Nat × Nat × Nat -> Nat × Nat × Nat) (hf : ∀ t, ((f t).1, (f t).2.1) = (t.1, t.2.1)) : rl (p.modify i f) = rl p := by
 unfold rl
 apply List.ext_getElem?
 intro j
 simp only [List.getElem?_map, Array.getElem?_toList, Array.getElem?_modify]
 split
 ·cases p[j]? with
  | none => rfl
  | some t => simp only [Option.map_some]; rw [hf t]
 ·rfl
theorem two_at {p : Array (Nat × Nat × Nat)} {i : Nat} (h : i + 1 < p.size) : ∃ l t u m, p.toList = l ++ t :: u :: m /\ l.length = i /\ p[i]? = some t /\ p[i + 1]? = some u := by
 refine ⟨p.toList.take i, p[i], p[i + 1], p.toList.drop (i + 2), ?_, by rw [List.length_take, Array.length_toList]; (first | lia | omega), by simp, by simp⟩
 have e1 : p.toList.drop i = p[i] :: p.toList.drop (i + 1) := by rw [List.drop_eq_getElem_cons (by simpa using (by (first | lia | omega) : i < p.size))]; rfl
 have e2 : p.toList.drop (i + 1) = p[i + 1] :: p.toList.drop (i + 2) := by rw [List.drop_eq_getElem_cons (by simpa using h)]; rfl
 rw [<- e2, <- e1, List.take_append_drop]
theorem rl_two {p : Array (Nat × Nat × Nat)} {i : Nat} {l m : List (Nat × Nat × Nat)} {t u v : Nat × Nat × Nat} (e : p.toList = l ++ t :: u :: m) (hl : l.length = i) :
  ((p.setIfInBounds i v).eraseIdxIfInBounds (i + 1)).toList = l ++ v :: m := by
 subst hl
 rw [Array.toList_eraseIdxIfInBounds, Array.toList_setIfInBounds, e, List.set_append_right _ _ (Nat.le_refl _), Nat.sub_self, List.set_cons_zero, List.eraseIdx_append_of_length_le (by (first | lia | omega)), Nat.add_sub_cancel_left]
 rfl
end
section
variable {prog : Program} {w : World} {A : Around} {E : Value -> Shared -> Prop} {s : Shared} {κ : SortKind} {O : KeyOrd} {key : Keyed -> O.α} {Good : Keyed -> Prop} {a₀ : Array Keyed}
structure Pd (κ : SortKind) (O : KeyOrd) (key : Keyed -> O.α) (a₀ : Array Keyed) (hi : Nat) (st : SortSt) : Prop where
 kp : Kp κ a₀ st
 run : Rn O key (arrOf st) 0 (rl (pendingOf st)) hi
 fits : hi <= a₀.size
theorem mergeTwo_ok {st : SortSt} {hi i : Nat} {Q : Bool -> SortSt -> Prop} (L : LtOk prog w A E s κ O key Good) (g : ∀ x ∈ a₀.toList, Good x) (P : Pd κ O key a₀ hi st) (hi' : i + 1 < (pendingOf st).size)
  (h : ∀ st', Pd κ O key a₀ hi st' -> (pendingOf st').size + 1 = (pendingOf st).size -> (∀ i, hi <= i -> (arrOf st')[i]? = (arrOf st)[i]?) -> Q true st') : wpS (model prog w) A E s (mergeAt' i) Q st := by
 obtain ⟨l, ⟨sa, na, p⟩, ⟨sb, nb, q⟩, m, ep, hl, e1, e2⟩ := two_at hi'
 have R := P.run
 unfold rl at R
 rw [ep, List.map_append] at R
 obtain ⟨mid, R1, r1, r2, r3, r4, r5, r6, R2⟩ := Rn.split R
 dsimp only at r1 r2 r3 r4 r5 r6 R2
 subst r1
 subst r4
 have lim := Rn.le R2
 refine mergeAt_ok L g P.kp e1 e2 r2 r5 (by have := P.fits; (first | lia | omega)) r3 r6 fun st' K' e3 sS fr => h st' ⟨K', ?_, P.fits⟩ ?_ fun i i1 => fr i (by (first | lia | omega))
 ·unfold rl
  rw [e3, rl_two ep hl, List.map_append]
  refine Rn.app (R1.keep fun i i1 i2 => fr i (by (first | lia | omega))) ⟨rfl, by show 0 < na + nb; (first | lia | omega), sS, ?_⟩
  show Rn O key (arrOf st') (sa + (na + nb)) _ hi
  rw [<- Nat.add_assoc]
  exact R2.keep fun i i1 i2 => fr i (by (first | lia | omega))
 ·have l1 := congrArg List.length (rl_two (v := (sa, na + nb, p)) ep hl)
  have l2 := congrArg List.length ep
  rw [<- e3] at l1
  rw [Array.length_toList] at l1 l2
  rw [l1, l2, List.length_append, List.length_append]
  simp only [List.length_cons]
  (first | lia | omega)
theorem Pd.kpSet {st : SortSt} {hi : Nat} {p : Array (Nat × Nat × Nat)} (P : Pd κ O key a₀ hi st) (e : rl p = rl (pendingOf st)) : Pd κ O key a₀ hi (setPending st p) :=
 ⟨⟨P.kp.kind, P.kp.perm, P.kp.fail⟩, by
  show Rn O key (arrOf st) 0 (rl p) hi
  rw [e]
  exact P.run, P.fits⟩
theorem Pd.push {st : SortSt} {lo n q : Nat} (P : Pd κ O key a₀ lo st) (hn : 1 <= n) (hf : lo + n <= a₀.size) (S : (sg (arrOf st) lo n).Pairwise (Le O key)) : Pd κ O key a₀ (lo + n) (setPending st ((pendingOf st).push (lo, n, q))) :=
 ⟨⟨P.kp.kind, P.kp.perm, P.kp.fail⟩, by
  show Rn O key (arrOf st) 0 (rl ((pendingOf st).push (lo, n, q))) (lo + n)
  rw [rl_push]
  exact P.run.push (fun _ _ _ => rfl) hn S, hf⟩
theorem sortRuns_ok {st : SortSt} {Q : Unit -> SortSt -> Prop} (L : LtOk prog w A E s κ O key Good) (g : ∀ x ∈ a₀.toList, Good x) (K : Kp κ a₀ st) (h0 : pendingOf st = #[]) (h1 : 1 <= a₀.size)
  (h : ∀ st', Kp κ a₀ st' -> (arrOf st').toList.Pairwise (Le O key) -> Q () st') : wpS (model prog w) A E s sortRuns' Q st := by
 rw [sortRuns'_eq]
 refine wpS_bind (wpS_get ?_)
 dsimp only
 rw [K.size]
 have P0 : Pd κ O key a₀ 0 st := ⟨K, by rw [h0]; rfl, Nat.zero_le _⟩
 refine wpS_bind (wpS_mono (wpS_forRange (I := fun x c z => ∃ lo, c = (none, lo) /\ Pd κ O key a₀ lo z /\ (x <= lo \/ lo = a₀.size)) (Q := fun c z => c = (none, a₀.size) /\ Pd κ O key a₀ a₀.size z) (fun x c z l1 l2 => ?_) (fun c z => ?_) ⟨0, rfl, P0, .inl (Nat.le_refl 0)⟩) fun c z => ?_)
 ·rintro ⟨lo, rfl, P, le⟩
  dsimp only
  refine ite_ok (fun q => wpS_pure ?_) (fun q => ?_)
  ·obtain rfl : lo = a₀.size := by have := P.fits; (first | lia | omega)
   exact ⟨rfl, P⟩
  have old : ∀ {n : Nat} {z' : SortSt}, Cr κ a₀ z lo n z' -> Pd κ O key a₀ lo z' := fun C => ⟨C.kp, by rw [C.pend]; exact P.run.keep fun i _ i2 => C.frm i (by (first | lia | omega)), P.fits⟩
  refine wpS_bind (countRun_ok L g P.kp (by (first | lia | omega)) (by (first | lia | omega)) fun m z1 C1 m1 m2 up1 => ?_)
  dsimp only
  refine ite_ok (fun mr => ?_) (fun _ => ?_)
  ·refine wpS_bind (wpS_lift (wpAny_rule ⟨rfl, ?_⟩))
   refine wpS_bind (binarySort_ok L g C1.kp (by (first | lia | omega)) (by (first | lia | omega)) up1 fun z2 C2 up2 => ?_)
   have hn : 1 <= min (a₀.size - lo) (minRun' a₀.size a₀.size 0) := by (first | lia | omega)
   have hf : lo + min (a₀.size - lo) (minRun' a₀.size a₀.size 0) <= a₀.size := by (first | lia | omega)
   rw [if_neg (by simp)]
   have P2 : Pd κ O key a₀ lo z2 := old (n := a₀.size - lo) ⟨C2.kp, C2.pend.trans C1.pend, C1.frm.trans fun i hi => C2.frm i (by (first | lia | omega))⟩
   refine wpS_bind (wpS_get ?_)
   cases eb : (pendingOf z2).back? with
   | none =>
    dsimp only
    exact wpS_bind (wpS_modify (wpS_pure ⟨lo + (min (a₀.size - lo) (minRun' a₀.size a₀.size 0)), rfl, Pd.push P2 hn hf (inc_seg up2), .inl (by (first | lia | omega))⟩))
   | some t =>
    obtain ⟨s1, n1, pw⟩ := t
    dsimp only
    refine wpS_bind (wpS_mono (wpS_forRange (I := fun _ c y => c = (none, ()) /\ Pd κ O key a₀ lo y /\ (sg (arrOf y) lo (min (a₀.size - lo) (minRun' a₀.size a₀.size 0))).Pairwise (Le O key)) (Q := fun c y => c = (none, ()) /\ Pd κ O key a₀ lo y /\ (sg (arrOf y) lo (min (a₀.size - lo) (minRun' a₀.size a₀.size 0))).Pairwise (Le O key)) (fun x' c y _ _ => ?_) (fun _ _ hh => hh) ⟨rfl, P2, (inc_seg up2)⟩) fun c y => ?_)
    ·rintro ⟨rfl, P2, S2⟩
     refine wpS_bind (wpS_get ?_)
     by_cases q2 : (pendingOf y).size > 1
     ·obtain ⟨t, et⟩ : ∃ t, (pendingOf y)[(pendingOf y).size - 2]? = some t := ⟨_, getElem?_pos _ _ (by (first | lia | omega))⟩
      rw [if_pos q2, et]
      dsimp only
      refine ite_ok (fun _ => wpS_pure ⟨rfl, P2, S2⟩) fun _ => wpS_bind (mergeTwo_ok L g P2 (by (first | lia | omega)) fun y' P3 _ fr => ?_)
      rw [if_neg (by simp)]
      refine wpS_pure ⟨rfl, P3, ?_⟩
      rw [sg_congr (b := arrOf y) fun i _ => fr _ (Nat.le_add_right lo i)]
      exact S2
     ·rw [if_neg q2]
      exact wpS_pure ⟨rfl, P2, S2⟩
    ·rintro ⟨rfl, P2, S2⟩
     dsimp only
     refine wpS_bind (wpS_modify (wpS_bind (wpS_modify (wpS_pure ⟨lo + (min (a₀.size - lo) (minRun' a₀.size a₀.size 0)), rfl, ?_, .inl (by (first | lia | omega))⟩))))
     exact Pd.push (P2.kpSet (rl_mod _ _ _ fun _ => rfl)) hn hf S2
  ·have hn : 1 <= m := m1
   have hf : lo + m <= a₀.size := by (first | lia | omega)
   refine wpS_bind (wpS_get ?_)
   cases eb : (pendingOf z1).back? with
   | none =>
    dsimp only
    exact wpS_bind (wpS_modify (wpS_pure ⟨lo + m, rfl, Pd.push (old C1) hn hf (inc_seg up1), .inl (by (first | lia | omega))⟩))
   | some t =>
    obtain ⟨s1, n1, pw⟩ := t
    dsimp only
    refine wpS_bind (wpS_mono (wpS_forRange (I := fun _ c y => c = (none, ()) /\ Pd κ O key a₀ lo y /\ (sg (arrOf y) lo m).Pairwise (Le O key)) (Q := fun c y => c = (none, ()) /\ Pd κ O key a₀ lo y /\ (sg (arrOf y) lo m).Pairwise (Le O key)) (fun x' c y _ _ => ?_) (fun _ _ hh => hh) ⟨rfl, (old C1), (inc_seg up1)⟩) fun c y => ?_)
    ·rintro ⟨rfl, P2, S2⟩
     refine wpS_bind (wpS_get ?_)
     by_cases q2 : (pendingOf y).size > 1
     ·obtain ⟨t, et⟩ : ∃ t, (pendingOf y)[(pendingOf y).size - 2]? = some t := ⟨_, getElem?_pos _ _ (by (first | lia | omega))⟩
      rw [if_pos q2, et]
      dsimp only
      refine ite_ok (fun _ => wpS_pure ⟨rfl, P2, S2⟩) fun _ => wpS_bind (mergeTwo_ok L g P2 (by (first | lia | omega)) fun y' P3 _ fr => ?_)
      rw [if_neg (by simp)]
      refine wpS_pure ⟨rfl, P3, ?_⟩
      rw [sg_congr (b := arrOf y) fun i _ => fr _ (Nat.le_add_right lo i)]
      exact S2
     ·rw [if_neg q2]
      exact wpS_pure ⟨rfl, P2, S2⟩
    ·rintro ⟨rfl, P2, S2⟩
     dsimp only
     refine wpS_bind (wpS_modify (wpS_bind (wpS_modify (wpS_pure ⟨lo + m, rfl, ?_, .inl (by (first | lia | omega))⟩))))
     exact Pd.push (P2.kpSet (rl_mod _ _ _ fun _ => rfl)) hn hf S2
 ·rintro ⟨lo, rfl, P, le⟩
  obtain rfl : lo = a₀.size := by have := P.fits; (first | lia | omega)
  exact ⟨rfl, P⟩
 ·rintro ⟨rfl, P⟩
  dsimp only
  have few : (pendingOf z).size <= a₀.size := by have := Rn.le P.run; rw [rl_len] at this; (first | lia | omega)
  refine wpS_bind (wpS_mono (wpS_forRange (I := fun x c y => c = (none, ()) /\ Pd κ O key a₀ a₀.size y /\ (pendingOf y).size + x <= a₀.size + 1) (Q := fun c y => c = (none, ()) /\ Pd κ O key a₀ a₀.size y /\ (pendingOf y).size <= 1) (fun x c y _ l2 => ?_) (fun c y => ?_) ⟨rfl, P, by (first | lia | omega)⟩) fun c y => ?_)
  ·rintro ⟨rfl, P2, le⟩
   refine wpS_bind (wpS_get ?_)
   refine ite_ok (fun q => wpS_pure ⟨rfl, P2, q⟩) fun q => ?_
   have go : ∀ i, i + 1 < (pendingOf y).size -> wpS (model prog w) A E s (mergeAt' i) (fun b z => b = true /\ Pd κ O key a₀ a₀.size z /\ (pendingOf z).size + (x + 1) <= a₀.size + 1) y := fun i hi =>
    mergeTwo_ok L g P2 hi fun z P3 e _ => ⟨rfl, P3, by (first | lia | omega)⟩
   refine wpS_bind (wpS_mono (go _ ?_) ?_)
   ·have pick : ∀ (c : Prop) [Decidable c], (if c then (pendingOf y).size - 2 - 1 else (pendingOf y).size - 2) + 1 < (pendingOf y).size := fun c _ => by split <;> (first | lia | omega)
    exact pick _
   ·rintro b z ⟨rfl, P3, e⟩
    rw [if_neg (by simp)]
    exact wpS_pure ⟨rfl, P3, e⟩
  ·rintro ⟨rfl, P2, le⟩
   exact ⟨rfl, P2, by (first | lia | omega)⟩
  ·rintro ⟨rfl, P2, le⟩
   refine wpS_pure (h y P2.kp ?_)
   have R := P2.run
   have sz := P2.kp.size
   rw [<- rl_len] at le
   revert R le
   generalize rl (pendingOf y) = l
   intro le R
   match l, le, R with
   | [], _, R => exact absurd (show 0 = a₀.size from R) (by (first | lia | omega))
   | [t], _, ⟨_, _, R3, R4⟩ =>
    have e : t.2 = (arrOf y).size := by rw [sz]; simpa [Rn] using R4
    rw [e] at R3
    have : sg (arrOf y) 0 (arrOf y).size = (arrOf y).toList := by
     unfold sg
     rw [List.drop_zero, List.take_of_length_le (by simp)]
    rw [this] at R3
    exact R3
   | _ :: _ :: _, le, _ => simp at le
end
end Ts
namespace Sx
open PySem PySem.W PyProof.Rows
theorem ints_inj : ∀ {vs : List Value} {ns ms : List Int}, IntsAre vs ns -> IntsAre vs ms -> ns = ms
 | _, _, _, .nil, .nil => rfl
 | _, _, _, .cons _ _ a, .cons _ _ b => by rw [ints_inj a b]
theorem TupI.inj {h : Heap} {a : Addr} {t u : List Int} (x : TupI h a t) (y : TupI h a u) : t = u := by
 refine gz9 fun _ bk0 => ?_
 obtain ⟨o, its, n, e1, _, e2, e3⟩ := x
 obtain ⟨o', its', n', f1, _, f2, f3⟩ := y
 refine bk0 ?_
 rw [e1] at f1
 cases f1
 rw [e2] at f2
 cases f2
 exact ints_inj e3 f3
open Classical in
noncomputable def tOf (h : Heap) (r : Addr) : List Int := if q : ∃ t, TupI h r t then Classical.choose q else []
theorem tOf_eq {h : Heap} {r : Addr} {t : List Int} (x : TupI h r t) : tOf h r = t := by
 have q : ∃ t, TupI h r t := ⟨t, x⟩
 unfold tOf
 rw [dif_pos q]
 exact (Classical.choose_spec q).inj x
noncomputable def kf (h : Heap) (x : Keyed) : List Int := match x.1 with | .ref r => tOf h r | _ => []
noncomputable def dup (r : Addr) : Keyed := (.ref r, .ref r)
noncomputable def und (x : Keyed) : Addr := match x.2 with | .ref r => r | _ => 0
section
variable {prog : Program} {w : World} {A : Around} {E : Value -> Shared -> Prop} {s : Shared}
theorem lt_ok {b : Bool} : Ts.LtOk prog w A E s (tuples' b) lexO (kf s.heap) (fun x => ∃ r t, x = dup r /\ TupI s.heap r t) := by
 rintro x y ⟨r, t, rfl, hr⟩ ⟨q, u, rfl, hq⟩ Q st hk h
 rw [lt'_eq]
 refine wpS_bind (wpS_get ?_)
 rw [hk]
 refine wpS_bind (wpS_lift (wpAny_attempt (lt_tups hr hq ⟨rfl, ?_⟩)))
 refine wpS_pure ?_
 have e1 : kf s.heap (dup r) = t := tOf_eq hr
 have e2 : kf s.heap (dup q) = u := tOf_eq hq
 rw [e1, e2] at h
 exact h
theorem zip_dup (rs : List Addr) : ((rs.map Value.ref).toArray.zip (rs.map Value.ref).toArray).toList = rs.map dup := by
 simp only [Array.toList_zip, List.toList_toArray]
 rw [List.zip_map']
 rfl
theorem ts_of {h : Heap} : ∀ {rs : List Addr} {ts : List (List Int)}, Paired (fun r t => TupI h r t /\ t ≠ []) rs ts -> ts = rs.map (tOf h)
 | _, _, .nil => rfl
 | _, _, .cons x t => by rw [List.map_cons, <- ts_of t, tOf_eq x.1]
theorem zip_self {f : Addr -> List Int} : ∀ (l : List Addr), l.zip (l.map f) = l.map fun r => (r, f r)
 | [] => rfl
 | _ :: l => by rw [List.map_cons, List.zip_cons_cons, zip_self l, List.map_cons]
theorem sorted_dup {h : Heap} {rs : List Addr} {ts : List (List Int)} {l : List Keyed} (hp : Paired (fun r t => TupI h r t /\ t ≠ []) rs ts) (pm : l.Perm (rs.map dup)) (pw : l.Pairwise (Ts.Le lexO (kf h))) :
  Sorted rs ts (l.map und) ((l.map und).map (tOf h)) /\ l = (l.map und).map dup := by
 have e0 : ∀ m : List Addr, (m.map dup).map und = m := fun m => by rw [List.map_map]; exact (List.map_congr_left fun _ _ => rfl).trans (List.map_id _)
 have bk0 : l = (l.map und).map dup := by
  rw [List.map_map]
  refine (List.map_id _).symm.trans (List.map_congr_left fun x hx => ?_)
  obtain ⟨r, _, rfl⟩ := List.mem_map.mp (pm.mem_iff.mp hx)
  rfl
 have pr : (l.map und).Perm rs := by
  have := pm.map und
  rwa [e0] at this
 refine ⟨⟨?_, by simp, ?_⟩, bk0⟩
 ·rw [zip_self, ts_of hp, zip_self]
  exact pr.map _
 ·rw [List.pairwise_map]
  rw [bk0, List.pairwise_map] at pw
  exact pw.imp fun q => q
theorem sort_treeB {a : Addr} {rs : List Addr} {ts : List (List Int)} {n : Nat} {P : PySem.Fin -> Shared -> Prop} (ho : s.heap.get? a = some (seqObj "list" (rs.map Value.ref).toArray n)) (hb : rs.length <= 1000000)
  (hp : Paired (fun r t => TupI s.heap r t /\ t ≠ []) rs ts) (hna : a ∉ rs)
  (h : ∀ rs' ts' h' c, Sorted rs ts rs' ts' -> (∀ b o, b ≠ a -> s.heap.get? b = some o -> h'.get? b = some o) -> h'.get? a = some (seqObj "list" (rs'.map Value.ref).toArray c) -> P (.done (.ret .none)) { s with heap := h' }) :
  wpAny (model prog w) A (Builtin.«list.sort» ⟨[.ref a], []⟩) P E s := by
 have hl : rs.length = ts.length := Paired.length hp
 have hlt : a < s.heap.objs.size := Heap.lt_size ho
 rw [list_sort_plain]
 refine wpAny_bind (listItems_at ho rfl (wpAny_bind (listUpdate_at ho rfl ?_ (by rw [List.size_toArray, List.length_map, sizeLine_eq]; (first | lia | omega)) (Nat.zero_le _))))
 obtain ⟨e1, ho1⟩ : ∃ e1, (s.heap.update a (Obj.mapSeq fun _ => (#[] : Array Value))).get? a = some (seqObj "list" #[] e1) := ⟨_, get?_update_seq ho fun _ => #[]⟩
 have sb := Heap.SameBut.update s.heap a (Obj.mapSeq fun _ => (#[] : Array Value))
 refine wpAny_bind (seqEpoch_at ho1 rfl (wpAny_bind (wpAny_newTuple ?_ (by rw [Array.length_toList, List.size_toArray, List.length_map, sizeLine_eq]; (first | lia | omega)))))
 refine wpAny_bind (wpAny_newList (wpAny_holding ?_) (Nat.zero_le _))
 generalize hh2 : (Heap.push (Heap.push (s.heap.update a (Obj.mapSeq fun _ => (#[] : Array Value))) _) _) = h2
 have old : ∀ b o, b ≠ a -> s.heap.get? b = some o -> h2.get? b = some o := fun b o hb e => by
  rw [<- hh2]
  exact Heap.get?_push_of_some _ (Heap.get?_push_of_some _ ((sb.2 b hb).trans e))
 have ho2 : h2.get? a = some (seqObj "list" #[] e1) := by
  rw [<- hh2]
  exact Heap.get?_push_of_some _ (Heap.get?_push_of_some _ ho1)
 have fin : ∀ (rs' : List Addr) (ts' : List (List Int)), Sorted rs ts rs' ts' -> ∀ (out : Array Value), out = (rs'.map Value.ref).toArray →
   P (.done (.ret .none)) { s with heap := h2.update a (Obj.mapSeq fun _ => out) } := fun rs' ts' hS out eo => by
  subst eo
  refine h rs' ts' _ _ hS (fun b o hb e => ?_) (get?_update_seq ho2 fun _ => (rs'.map Value.ref).toArray)
  exact ((Heap.SameBut.update h2 a (Obj.mapSeq fun _ => (rs'.map Value.ref).toArray)).2 b hb).trans (old b o hb e)
 have hsz : (rs.map Value.ref).toArray.size = rs.length := by rw [List.size_toArray, List.length_map]
 dsimp only
 by_cases h2' : (rs.map Value.ref).toArray.size < 2
 ·rw [if_pos h2', if_pos h2']
  refine wpAny_bind (wpAny_pure ?_)
  rw [StateT.run_pure]
  refine wpAny_bind (wpAny_pure ?_)
  dsimp only
  have eo : (arrOf (SortSt.mk' general' ((rs.map Value.ref).toArray.zip (rs.map Value.ref).toArray) #[] 7 none)).map (fun x => x.2) = (rs.map Value.ref).toArray := by
   show ((rs.map Value.ref).toArray.zip (rs.map Value.ref).toArray).map (fun x => x.2) = _
   apply Array.toList_inj.mp
   simp only [Array.toList_map, Array.toList_zip, List.toList_toArray]
   exact List.map_snd_zip (Nat.le_refl _)
  refine wpAny_bind (seqEpoch_at ho2 rfl (wpAny_bind (listUpdate_at ho2 rfl ?_ (Nat.zero_le _) (by rw [eo, hsz, sizeLine_eq]; (first | lia | omega)))))
  simp only [bne_self_eq_false, Bool.false_eq_true, if_false]
  refine wpAny_pure (fin rs ts ⟨List.Perm.refl _, hl, ?_⟩ _ eo)
  rw [List.pairwise_iff_getElem]
  intro i j hi hj hij
  exfalso
  (first | lia | omega)
 ·rw [if_neg h2', if_neg h2']
  have hp2 : Paired (fun r t => TupI h2 r t /\ t ≠ []) rs ts := by
   clear fin h
   have go : ∀ {l : List Addr} {m : List (List Int)}, Paired (fun r t => TupI s.heap r t /\ t ≠ []) l m -> (∀ r ∈ l, r ≠ a) -> Paired (fun r t => TupI h2 r t /\ t ≠ []) l m := by
    intro l m q
    induction q with
    | nil => intro _; exact .nil
    | cons hr _ ih => intro hn; exact .cons ⟨hr.1.keep fun o e => old _ o (hn _ (.head _)) e, hr.2⟩ (ih fun r hr' => hn r (.tail _ hr'))
   exact go hp fun r hr z => hna (z ▸ hr)
  refine wpAny_bind (kind_tups (s := { s with heap := h2 }) (by (first | lia | omega)) hp2 fun b => ?_)
  have gd : ∀ x ∈ ((rs.map Value.ref).toArray.zip (rs.map Value.ref).toArray).toList, ∃ r t, x = dup r /\ TupI h2 r t := fun x hx => by
   rw [zip_dup] at hx
   refine gz9 fun _ bk0 => ?_
   obtain ⟨r, hr, rfl⟩ := List.mem_map.mp hx
   obtain ⟨i, hi, e⟩ := List.getElem_of_mem hr
   obtain ⟨t, _, ht, _⟩ := pair_at (i := i) (a := r) hp2 (by rw [<- e]; simp [hi])
   refine bk0 ?_
   exact ⟨r, t, rfl, ht⟩
  have sz0 : ((rs.map Value.ref).toArray.zip (rs.map Value.ref).toArray).size = rs.length := by rw [<- Array.length_toList, zip_dup, List.length_map]
  have run : wpS (model prog w) A E { s with heap := h2 } sortRuns' (fun _ st' => failedOf st' = none /\ (arrOf st').toList.Perm (rs.map dup) /\ (arrOf st').toList.Pairwise (Ts.Le lexO (kf h2))) (SortSt.mk' (tuples' b) ((rs.map Value.ref).toArray.zip (rs.map Value.ref).toArray) #[] 7 none) :=
   Ts.sortRuns_ok (a₀ := (rs.map Value.ref).toArray.zip (rs.map Value.ref).toArray) (lt_ok (s := { s with heap := h2 })) gd ⟨rfl, List.Perm.refl _, rfl⟩ rfl (by (first | lia | omega)) fun st' K' pw => ⟨K'.fail, by rw [<- zip_dup]; exact K'.perm, pw⟩
  refine wpAny_bind (wpAny_mono run ?_ fun _ _ e => e)
  rintro ⟨⟨⟩, st'⟩ s' ⟨rfl, hf, pm, pw⟩
  dsimp only at hf pm pw ⊢
  obtain ⟨hS, bk0⟩ := sorted_dup hp2 pm pw
  have eo : (arrOf st').map (fun x => x.2) = (((arrOf st').toList.map und).map Value.ref).toArray := by
   apply Array.toList_inj.mp
   rw [Array.toList_map, List.toList_toArray]
   generalize hl2 : (arrOf st').toList.map und = m at bk0 ⊢
   rw [bk0, List.map_map]
   rfl
  refine wpAny_bind (seqEpoch_at ho2 rfl (wpAny_bind (listUpdate_at ho2 rfl ?_ (Nat.zero_le _) ?_)))
  ·rw [hf]
   simp only [bne_self_eq_false, Bool.false_eq_true, if_false]
   exact wpAny_pure (fin _ _ hS _ eo)
  ·show ((arrOf st').map (fun x => x.2)).size <= _
   have := pm.length_eq
   rw [List.length_map, Array.length_toList] at this
   rw [Array.size_map, this, sizeLine_eq]
   (first | lia | omega)
end
end Sx
namespace L2
open PySem PySem.Spec PyProof.Rows
section
variable {X : Cx} {pins : List (Addr × Obj)} {σ : St} {H : Hp} {s : Shared}
theorem sort_newB {A : Around} {E : Value -> Shared -> Prop} {Q : Value -> Shared -> Prop} {rs : List Addr} {ts : List (List Int)} {h1 : Heap} {tk : Nat} (I : Inv X pins σ H s) (k1 : ∀ b o, s.heap.get? b = some o -> h1.get? b = some o)
  (hp : TupsH H rs ts) (h64 : rs.length <= 1000000) (h : ∀ rs' ts' s' p, Sx.Sorted rs ts rs' ts' -> H p = none -> Inv X pins σ (upd H p (.lst (rs'.map V.ref))) s' -> Q (.ref p) s') :
  wpAny (model X.prog X.w) A (newList (rs.map Value.ref)) (fun l s' => wpAny (model X.prog X.w) A (call (.builtin "list.sort") [l]) (fun _ s'' => Q l s'') E s') E { s with heap := h1, toks := tk } := by
 have I1 : Inv X pins σ H { s with heap := h1, toks := tk } := I.kept k1
 refine wpAny_newList ?_ (by rw [List.length_map, sizeLine_eq]; (first | lia | omega))
 have ho : (h1.push { cls := .type "list", data := .seq (rs.map Value.ref).toArray }).get? h1.objs.size = some (seqObj "list" (rs.map Value.ref).toArray 0) := Heap.get?_push_size _ rfl
 have hfr : H h1.objs.size = none := I1.hok.fresh (Nat.le_refl _)
 have hne : h1.objs.size ∉ rs := fun hm => by
  refine gz9 fun _ bk0 => ?_
  obtain ⟨i, hi, e⟩ := List.getElem_of_mem hm
  obtain ⟨t, _, q, _⟩ := Sx.pair_at (i := i) (a := h1.objs.size) hp (by rw [<- e]; simp [hi])
  refine bk0 ?_
  rw [hfr] at q; cases q
 have I2 : Inv X pins σ H { s with heap := h1.push { cls := .type "list", data := .seq (rs.map Value.ref).toArray }, toks := tk } := I1.kept fun b o e => Heap.get?_push_of_some _ e
 refine wpAny_call_entry slot_list_sort ⟨_, ho, rfl⟩ entry_list_sort (Sx.sort_treeB (s := { s with heap := h1.push { cls := .type "list", data := .seq (rs.map Value.ref).toArray }, toks := tk }) ho h64 (I2.tupsI hp) hne fun rs' ts' h' c hS hk hl => ⟨_, rfl, ?_⟩) (args_list_sort _)
 refine h rs' ts' _ h1.objs.size hS hfr (I1.laid (a := h1.objs.size) (fun b o e => hk b o (Nat.ne_of_lt (Heap.lt_size e)) (Heap.get?_push_of_some _ e)) (Nat.le_refl _) ?_)
 have hlen : rs'.length = rs.length := by
  have e := hS.perm.length_eq
  have e2 := hS.len
  have e3 := Paired.length hp
  simp only [List.length_zip] at e
  (first | lia | omega)
 exact ⟨by rw [List.length_map, sizeLine_eq]; (first | lia | omega), rs'.map Value.ref, c, vals_refs rs', hl⟩
end
section
variable {X : Cx}
theorem call_sortedLB : CallR X (.builtin "sorted") (fun xs H Q => ∃ a rs ts, xs = [.ref a] /\ SqL X.K H a (rs.map V.ref) /\ rs.length <= 1000000 /\ TupsH H rs ts ∧
  ∀ rs' ts' p, Sx.Sorted rs ts rs' ts' -> H p = none -> Q (.ref p) (upd H p (.lst (rs'.map V.ref)))) := by
 intro pins s σ H xs us Q I r h
 refine gz9 fun _ bk0 => ?_
 obtain ⟨a, rs, ts, rfl, hq, h64, hp, q⟩ := h
 obtain ⟨u, rfl, ru⟩ := vals1 r
 refine bk0 ?_
 cases ru
 refine gz9 fun _ bk0 => ?_
 obtain ⟨its, rv, pl, hz⟩ := I.list hq
 refine bk0 ?_
 have ei := refs_of rv
 subst ei
 refine Calls.call_function_entry kind_sorted plain_sorted entry_sorted (args_sorted1 _) ?_
 unfold Builtin.«sorted»
 refine wpAny_bind (m := checkCount "sorted" 1 1 _) (wpAny_pure (wpAny_bind (collect_list pl.isList ?_ (by rw [List.length_map, sizeLine_eq]; (first | lia | omega)))))
 have fin := sort_newB (A := X.A.in1) (E := X.xe) (Q := fun v s' => EP X pins σ Q v s') (h1 := (s.heap.push (seqObj "list" #[] 0)).update s.heap.objs.size (Obj.mapSeq (· ++ (rs.map Value.ref).toArray))) (tk := s.toks) I (fun b o e =>
  ((Heap.SameBut.update _ _ _).2 b (Nat.ne_of_lt (Heap.lt_size e))).trans (Heap.get?_push_of_some _ e)) hp h64 fun rs' ts' s' p hS hf I' => ⟨.ref p, _, I', rfl, q rs' ts' p hS hf⟩
 refine wpAny_bind (wpAny_mono fin (fun l s' hl => wpAny_bind (wpAny_holding (wpAny_mono hl (fun _ s'' hq' => wpAny_pure ⟨_, rfl, hq'⟩) fun _ _ e => e))) fun _ _ e => e)
theorem call_sortedDB (hc : X.calm = true) : CallR X (.builtin "sorted") (fun xs H Q => ∃ a kvs ts, xs = [.ref a] /\ H a = some (.dT kvs) /\ kvs.map (·.1) = ts.map (·.map Sum.inl) /\ (∀ t ∈ ts, t ≠ []) /\ kvs.length <= 1000000 ∧
  ∀ rs rs' ts' p, TupsH H rs ts -> Sx.Sorted rs ts rs' ts' -> H p = none -> Q (.ref p) (upd H p (.lst (rs'.map V.ref)))) := by
 intro pins s σ H xs us Q I r h
 refine gz9 fun _ bk0 => ?_
 obtain ⟨a, kvs, ts, rfl, ha, hk, hne, h64, q⟩ := h
 obtain ⟨u, rfl, ru⟩ := vals1 r
 refine bk0 ?_
 cases ru
 refine gz9 fun _ bk0 => ?_
 obtain ⟨z, lo, xs, rel, o, es, ep, e1, e2, e3, e4, _⟩ := (show ObjOk X.prog X.w H s.heap a (.dT kvs) from I.hok a _ ha)
 refine bk0 ?_
 have hT : ∀ {l : List (List Key × V)} {m : List (List Key × Addr × Value)} {ts : List (List Int)}, KT H l m -> l.map (·.1) = ts.map (·.map Sum.inl) -> (∀ t ∈ ts, t ≠ []) -> TupsH H (m.map (·.2.1)) ts := by
  intro l m ts q
  induction q generalizing ts with
  | nil =>
   intro e _
   cases ts with
   | nil => exact .nil
   | cons t ts => simp at e
  | @cons p q' ps qs hq t ih =>
   intro e hn
   cases ts with
   | nil => simp at e
   | cons t0 ts =>
    rw [List.map_cons, List.map_cons] at e
    injection e with ea eb
    refine .cons ⟨?_, hn t0 (.head _)⟩ (ih eb fun t ht => hn t (.tail _ ht))
    have := hq.2.1
    rw [ea, List.map_map] at this
    exact this
 have hp : TupsH H (xs.map (·.2.1)) ts := hT rel hk hne
 have hl1 : xs.length = kvs.length := (Paired.length rel).symm
 have hsz : es.size = xs.length := by rw [<- Array.length_toList, e4, List.length_map]
 refine Calls.call_function_entry kind_sorted plain_sorted entry_sorted (args_sorted1 _) ?_
 unfold Builtin.«sorted»
 refine wpAny_bind (m := checkCount "sorted" 1 1 _) (wpAny_pure (wpAny_bind (PySem.W.kdu_collect (A := X.A.in1) (Sx.src_dictE lo) (I.ok.hd hc) ⟨o, e1, e2, e3⟩ (by rw [hsz, hl1]; exact z) fun h' tk acc hkp hacc => ?_)))
 have ea : acc.toList = (xs.map (·.2.1)).map Value.ref := by
  have ha' : acc.size = es.size := hacc.1
  apply List.ext_getElem?
  intro j
  rw [Array.getElem?_toList, List.map_map, List.getElem?_map]
  cases ej : acc[j]? with
  | none =>
   have : acc.size <= j := by simpa using ej
   rw [List.getElem?_eq_none (by (first | lia | omega))]; rfl
  | some v =>
   obtain ⟨en, h1, rfl⟩ := hacc.2 j v ej
   have h2 : es.toList[j]? = some en := by rw [Array.getElem?_toList]; exact h1
   rw [e4, List.getElem?_map] at h2
   cases ex : xs[j]? with
   | none => rw [ex] at h2; cases h2
   | some x => rw [ex] at h2; cases h2; rfl
 have fin := sort_newB (A := X.A.in1) (E := X.xe) (Q := fun v s' => EP X pins σ Q v s') (h1 := h') (tk := tk) I hkp hp (by rw [List.length_map]; (first | lia | omega)) fun rs' ts' s' p hS hf I' => ⟨.ref p, _, I', rfl, q _ rs' ts' p hp hS hf⟩
 rw [ea]
 refine wpAny_bind (wpAny_mono fin (fun l s' hl => wpAny_bind (wpAny_holding (wpAny_mono hl (fun _ s'' hq' => wpAny_pure ⟨_, rfl, hq'⟩) fun _ _ e => e))) fun _ _ e => e)
end
end L2
namespace Rv
open PySem PySem.W PyProof.Rows
noncomputable abbrev RIT : String := "list_reverseiterator"
noncomputable def IsRit (h : Heap) (it l : Addr) (k : Int) : Prop := ∃ (o : Obj) (t : Tok), h.get? it = some o /\ o.cls = .type RIT /\ o.data = .fields #[.ref l, .int (k - 1) t]
section
variable {prog : Program} {w : World} {A : Around} {E : Value -> Shared -> Prop} {s : Shared} {it l : Addr} {k : Int} {xs : Array Value}
end
end Rv
namespace Rv
open PySem PySem.W PyProof.Rows
section
variable {prog : Program} {w : World} {A : Around} {E : Value -> Shared -> Prop} {s : Shared}
end
end Rv
namespace L2
open PySem PySem.Spec PyProof.Rows
noncomputable def Itz (K : W.Frag) (a b : Addr) : It :=
  ⟨fun i H => ∃ xs ys x y, SqL K H a xs /\ SqL K H b ys /\ xs[i]? = some x /\ ys[i]? = some y,
   fun i H x H' => ∃ t u v, x = .ref t /\ H t = none /\ H' = upd H t (.tup [u, v]) /\ ∀ xs ys, SqL K H a xs -> SqL K H b ys -> xs[i]? = some u /\ ys[i]? = some v,
   fun i H => ∃ xs ys, SqL K H a xs /\ SqL K H b ys /\ (xs.length <= i \/ ys.length <= i)⟩
section
variable {X : Cx} {pins : List (Addr × Obj)} {σ : St} {H H' : Hp} {s : Shared} {h' : Heap}
theorem Inv.turnedL {t' : Nat} {ch : List Addr} (I : Inv X pins σ H s) (k : ∀ b o, b ∉ ch -> s.heap.get? b = some o -> h'.get? b = some o) (f : ∀ b ∈ ch, FpOk X pins H b)
  (old : ∀ b u, H b = some u -> H' b = some u) (free : ∀ b o, b ∉ ch -> s.heap.get? b = some o -> H b = none -> H' b = none) (new : ∀ b u, H' b = some u -> H b = none -> ObjOk X.prog X.w H' h' b u) : Inv X pins σ H' { s with heap := h', toks := t' } := by
 have out : ∀ b u, H b = some u -> b ∉ ch := fun b u e z => by rw [(f b z).1] at e; cases e
 refine I.step (g' := s.gens) (d' := s.drawn) (ch := ch) (fun b hb => ?_) (fun b o _ _ hc e _ => k b o hc e) (fun b o _ _ hc e _ => ⟨o.slots, k b o hc e⟩) free
  (fun b o hc e => ⟨o, k b o hc e⟩) (fun _ _ e => old _ _ e) (fun _ _ _ e => old _ _ e) (fun b ps e => ⟨#[], by rw [old _ _ e]; simp⟩) (fun m hm => ?_) (fun b u e => ?_) I.bare
 ·obtain ⟨_, g1, _, g3, g4, g5⟩ := f b hb
  exact ⟨g3, g1, g4, g5⟩
 ·obtain ⟨o, es, ep, ho, r⟩ := hm
  exact ⟨o, es, ep, k _ o (fun z => (f _ z).2.1 rfl) ho, r⟩
 ·cases q : H b with
  | none => exact new b u e q
  | some v =>
   have := old b v q
   rw [e] at this
   cases this
   refine (I.hok b u q).stay (fun c o hc w => k c o ?_ w) (fun _ w => old _ _ w) fun _ _ w => old _ _ w
   rcases hc with z | z
   ·rw [z]; exact out b u q
   ·exact out c _ z
end
theorem turn_zip {P : Program} {w : World} {K : W.Frag} {elts : List Expr} {x1} {pos : Pos} {z TI TO i1 i2 a b : Addr} (D : ZipApart z TI TO i1 i2 a b) :
  Turn P w K (.Tuple elts x1 pos) (Itz K a b) [z, TI, TO, i1, i2] z (fun i h => IsZip h z TI TO .none /\ IsPair h TI (.ref i1) (.ref i2) /\ (∃ u v, IsPair h TO u v) /\ h.IsListIter i1 a i /\ h.IsListIter i2 b i) where
 mem := by simp
 obj := fun i h st c hc => by
  refine gz9 fun _ bk0 => ?_
  obtain ⟨s1, s2, ⟨u, v, s3⟩, ⟨o4, e4, _, d4⟩, ⟨o5, e5, _, d5⟩⟩ := st
  refine bk0 ?_
  simp only [List.mem_cons, List.not_mem_nil, or_false] at hc
  rcases hc with rfl | rfl | rfl | rfl | rfl
  ·exact ⟨_, s1, fun v q => by cases (show Data.fields _ = Data.cell v from q)⟩
  ·exact ⟨_, s2, fun v q => by cases (show Data.seq _ _ = Data.cell v from q)⟩
  ·exact ⟨_, s3, fun v q => by cases (show Data.seq _ _ = Data.cell v from q)⟩
  ·exact ⟨o4, e4, fun v q => by rw [d4] at q; cases q⟩
  ·exact ⟨o5, e5, fun v q => by rw [d5] at q; cases q⟩
 keep := fun i h h' st k => by
  refine gz9 fun _ bk0 => ?_
  obtain ⟨s1, s2, ⟨u, v, s3⟩, s4, s5⟩ := st
  refine bk0 ?_
  exact ⟨k z (by simp) _ s1, k TI (by simp) _ s2, ⟨u, v, k TO (by simp) _ s3⟩, s4.at fun o e => k i1 (by simp) o e, s5.at fun o e => k i2 (by simp) o e⟩
 item := by
  intro X hP hw hK hc i pins s σ H E I hf st hg
  subst hP hw hK
  refine gz9 fun _ bk0 => ?_
  obtain ⟨s1, s2, ⟨u, v, s3⟩, s4, s5⟩ := st
  obtain ⟨xs, ys, x, y, hx, hy, ex, ey⟩ := hg
  obtain ⟨ia, ra, pa, za⟩ := I.list hx
  obtain ⟨ib, rb, pb, zb⟩ := I.list hy
  obtain ⟨vx, evx, rx⟩ := Vals.get ra ex
  obtain ⟨vy, evy, ry⟩ := Vals.get rb ey
  refine bk0 ?_
  refine wpAny_pyNext_zip_item D s1 s2 s3 s4 s5 pa.isList pb.isList (x := vx) (y := vy) (by simpa using evx) (by simpa using evy) fun h1 a1 a2 a3 a4 a5 a6 a7 => ⟨_, rfl, ?_⟩
  refine wpAny_letOwnedTupleGo_zip a1 fun h2 b1 sb => ?_
  have nz : ∀ {c : Addr} {o : Obj}, s.heap.get? c = some o -> s.heap.objs.size ≠ c := fun e => Nat.ne_of_gt (Heap.lt_size e)
  have hT : H s.heap.objs.size = none := I.hok.fresh (Nat.le_refl _)
  have tz : s.heap.objs.size ≠ z := nz s1
  have kept : ∀ c o, c ∉ [z, TI, TO, i1, i2] -> s.heap.get? c = some o -> h2.get? c = some o := fun c o hc e => by
   simp only [List.mem_cons, List.not_mem_nil, or_false, not_or] at hc
   exact sb.extBut c o hc.1 (a7 c o hc.1 hc.2.2.1 hc.2.2.2.1 hc.2.2.2.2 e)
  have pT : IsPair h2 s.heap.objs.size vx vy := sb.extBut _ _ tz a5
  have I2 : Inv X pins σ (upd H s.heap.objs.size (.tup [x, y])) { s with heap := h2, toks := s.toks } := by
   refine I.turnedL kept hf (fun c u e => by rw [upd_ne (ne_of_none e hT)]; exact e) (fun c o _ e n => by rw [upd_ne (Ne.symm (nz e))]; exact n) fun c u e n => ?_
   by_cases ec : c = s.heap.objs.size
   ·subst ec
    rw [upd_same] at e
    cases e
    exact ⟨by show 2 <= sizeLine; decide, [vx, vy], .cons rx (.cons ry .nil), _, pT, rfl, 0, rfl⟩
   ·rw [upd_ne ec, n] at e
    cases e
  refine ⟨.ref s.heap.objs.size, _, I2, rfl, ⟨_, x, y, rfl, hT, rfl, fun xs' ys' hx' hy' => ?_⟩, ⟨b1, sb.extBut _ _ D.TIz (a7 _ _ D.TIz D.TITO D.TIi1 D.TIi2 s2), ⟨_, _, sb.extBut _ _ D.TOz a2⟩, a3.extBut sb.extBut D.i1z, a4.extBut sb.extBut D.i2z⟩, fun c hc => ?_⟩
  ·rw [I.list_inj hx' hx, I.list_inj hy' hy]
   exact ⟨ex, ey⟩
  ·rw [upd_ne fun q => ?_]
   ·exact (hf c hc).1
   ·subst q
    simp only [List.mem_cons, List.not_mem_nil, or_false] at hc
    refine gz9 fun _ bk0 => ?_
    obtain ⟨_, e4, _⟩ := s4
    obtain ⟨_, e5, _⟩ := s5
    refine bk0 ?_
    rcases hc with q | q | q | q | q
    ·exact nz s1 q
    ·exact nz s2 q
    ·exact nz s3 q
    ·exact nz e4 q
    ·exact nz e5 q
 done := by
  intro X hP hw hK hc i pins s σ H E I hf st hg
  subst hP hw hK
  refine gz9 fun _ bk0 => ?_
  obtain ⟨s1, s2, ⟨u, v, s3⟩, s4, s5⟩ := st
  obtain ⟨xs, ys, hx, hy, le⟩ := hg
  obtain ⟨ia, ra, pa, za⟩ := I.list hx
  obtain ⟨ib, rb, pb, zb⟩ := I.list hy
  refine bk0 ?_
  have la := Vals.length ra
  have lb := Vals.length rb
  refine wpAny_pyNext_zip_end (I.ok.hd hc) D s1 s2 s3 s4 s5 pa.isList pb.isList ?_ fun h1 k => ⟨rfl, I.turnedL (t' := s.toks) (fun c o hc e => ?_) hf (fun _ _ e => e) (fun _ _ _ _ e => e) fun c u e n => by rw [n] at e; cases e⟩
  ·rcases le with q | q
   ·left; simp; (first | lia | omega)
   ·right; simp; (first | lia | omega)
  ·simp only [List.mem_cons, List.not_mem_nil, or_false, not_or] at hc
   exact k c o hc.1 hc.2.2.1 hc.2.2.2.1 hc.2.2.2.2 e
 self := fun _ _ _ _ _ st h => wpAny_pyIter_zip st.1 h
section
variable {X : Cx} {elts : List Expr} {x1 : Nat} {p0 : Pos}
theorem boot_zip : bootBuiltins "zip" = some (.type "zip") := by decide +kernel
noncomputable def iZip (K : W.Frag) (ta : TA) : TI := fun σ H R => ta σ H fun vs H1 => ∃ a b, vs = [.ref a, .ref b] /\ (∃ xs, SqL K H1 a xs) /\ (∃ ys, SqL K H1 b ys) /\ R (Itz K a b) H1
theorem pi_zip {a b : Expr} {ta : TA} {p pos : Pos} (hg : Gl X "zip") (hm : X.mg "zip" = none) (ha : PA X [a, b] ta) (hs : starEach [a, b] X.env = [(false, eval a X.env), (false, eval b X.env)] := by rfl) (hs2 : starEach [b] X.env = [(false, eval b X.env)] := by rfl) :
  PI X (.Tuple elts x1 p0) (.Call (.Name "zip" p) [a, b] [] pos) (iZip X.K ta) := by
 intro pins s σ H R I h
 refine Call_ (ld_blt I hg hm boot_zip (PyProof.Rows.callWith_type1 (thn (ha pos pins s σ H _ I h) fun us s1 ⟨vs, H1, I1, r1, q1⟩ => ?_) (by rw [hs, hs2]) (by rw [hs2]; rfl)))
 refine gz9 fun _ bk0 => ?_
 obtain ⟨l, m, rfl, ⟨xs, hx⟩, ⟨ys, hy⟩, q⟩ := q1
 obtain ⟨u, v, rfl, ru, rv⟩ := Vals.two r1
 refine bk0 ?_
 cases ru
 cases rv
 refine gz9 fun _ bk0 => ?_
 obtain ⟨ia, ra, pa, za⟩ := I1.list hx
 obtain ⟨ib, rb, pb, zb⟩ := I1.list hy
 obtain ⟨oa, ea, _⟩ := id pa.isList
 obtain ⟨ob, eb, _⟩ := id pb.isList
 refine bk0 ?_
 have la := Heap.lt_size ea
 have lb := Heap.lt_size eb
 refine call_zip_2 pa.isList pb.isList fun h' c1 c2 c3 c4 c5 c6 k => ?_
 refine wpAny_pyIter_zip (s := { s1 with heap := h' }) c1 ?_
 refine ⟨_, _, _, _, H1, rfl, I1.kept (t' := s1.toks) k, turn_zip (TI := s1.heap.objs.size + 2) (TO := s1.heap.objs.size + 3) (i1 := s1.heap.objs.size) (i2 := s1.heap.objs.size + 1) (zipApart_new la lb), ⟨c1, c2, ⟨_, _, c3⟩, c4, c5⟩, fun c hc => ?_, q⟩
 have ge : s1.heap.objs.size <= c := by
  simp only [List.mem_cons, List.not_mem_nil, or_false] at hc
  rcases hc with rfl | rfl | rfl | rfl | rfl <;> first | exact Nat.le_add_right _ _ | exact Nat.le_refl _
 exact I1.fpOk ge (I1.hok.fresh ge)
end
theorem for_zip {K : W.Frag} {a b : Addr} {xs ys : List V} {g : TG} {tb : TS} {D : Ends} {σ : St} {H : Hp} (Pv : Nat -> St -> Hp -> Prop) (hl : xs.length = ys.length) (h0 : Pv 0 σ H) (ha : ∀ i σ H, i <= xs.length -> Pv i σ H -> SqL K H a xs /\ SqL K H b ys)
  (hs : ∀ i x y t σ H, xs[i]? = some x -> ys[i]? = some y -> Pv i σ H -> H t = none -> g (.ref t) σ (upd H t (.tup [x, y])) fun σ2 H2 => tb { D with nx := Pv (i + 1), ct := Pv (i + 1), bk := D.nx } σ2 H2) (hd : ∀ σ H, Pv xs.length σ H -> D.nx σ H) :
  ∃ W : Nat -> Nat -> St -> Hp -> Prop, (∃ m, W 0 m σ H) /\ ∀ i m σ H, W i m σ H →
   ((Itz K a b).stop i H /\ D.nx σ H) \/ ((Itz K a b).go i H /\ ∃ N : St -> Hp -> Prop, (∀ σ' H', N σ' H' -> ∃ m', m' < m /\ W (i + 1) m' σ' H') /\ ∀ x H', (Itz K a b).yld i H x H' -> g x σ H' fun σ2 H2 => tb { D with nx := N, ct := N, bk := D.nx } σ2 H2) := by
 refine ⟨fun i m σ H => m + i = xs.length /\ Pv i σ H, ⟨xs.length, rfl, h0⟩, ?_⟩
 rintro i m σ H ⟨e, p⟩
 obtain ⟨q1, q2⟩ := ha i σ H (by (first | lia | omega)) p
 rcases Nat.eq_zero_or_pos m with rfl | pm
 ·have e' : i = xs.length := by (first | lia | omega)
  subst e'
  exact .inl ⟨⟨xs, ys, q1, q2, .inl (Nat.le_refl _)⟩, hd σ H p⟩
 ·have i1 : i < xs.length := by (first | lia | omega)
  have i2 : i < ys.length := by (first | lia | omega)
  refine .inr ⟨⟨xs, ys, xs[i], ys[i], q1, q2, by simp [i1], by simp [i2]⟩, Pv (i + 1), fun σ' H' p' => ⟨m - 1, by (first | lia | omega), by (first | lia | omega), p'⟩, ?_⟩
  rintro x H' ⟨t, u, v, rfl, ht, rfl, y⟩
  obtain ⟨y1, y2⟩ := y xs ys q1 q2
  exact hs i u v t σ H y1 y2 p ht
end L2
namespace L2
open PySem PySem.Spec PyProof.Rows
noncomputable def upto (n : Nat) : List Int := (List.range n).map fun (i : Nat) => (i : Int)
noncomputable def tLR (ta : TA) : TE := fun σ H Q => ta σ H fun vs H1 => ∃ j : Int, vs = [.int j] /\ 0 <= j /\ j <= 1000 /\ ∀ l, H1 l = none -> Q (.ref l) (upd H1 l (.lst ((upto j.toNat).map V.int)))
section
variable {X : Cx}
end
section
variable {X : Cx} {pins : List (Addr × Obj)} {σ : St} {H : Hp} {s : Shared}
theorem op_neLT (hu : X.A.units + 1 < cLine) : OpR X (compareOp .NotEq) (fun x y H Q => ∃ (a b : Addr) (rs qs : List Addr) (ts us : List (List Int)), x = .ref a /\ y = .ref b /\ SqL X.K H a (rs.map V.ref) /\ SqL X.K H b (qs.map V.ref) /\ TupsH H rs ts /\ TupsH H qs us /\ Q (.bl (!decide (ts = us))) H) := by
 intro pins s σ H x y v u Q I rx ry h
 refine gz9 fun _ bk0 => ?_
 obtain ⟨a, b, rs, qs, ts, us, rfl, rfl, ha, hb, hp, hq, q⟩ := h
 refine bk0 ?_
 cases rx
 cases ry
 refine gz9 fun _ bk0 => ?_
 obtain ⟨ia, ra, pa, _⟩ := I.list ha
 obtain ⟨ib, rb, pb, _⟩ := I.list hb
 refine bk0 ?_
 obtain rfl := refs_of ra
 obtain rfl := refs_of rb
 have l1 := Paired.length hp
 have l2 := Paired.length hq
 have hu' : X.A.units < cLine := by (first | lia | omega)
 rcases Nat.decEq rs.length qs.length with hl | hl
 ·have := SeqAt.RcNeAt.lists_lengths (A := X.A) pa.isList pb.isList (by simpa using hl) hu'
  obtain e : decide (ts = us) = false := decide_eq_false fun e => hl (by rw [l1, l2, e])
  rw [e] at q
  exact this X.prog X.w _ _ ⟨.bl _, H, I, rfl, q⟩
 ·have := SeqAt.RcNeAt.lists (A := X.A) (e := fun j => decide (ts.getD j [] = us.getD j [])) pa.isList pb.isList (by simp [hl]) hu' fun j h1 h2 => by
   have h1' : j < rs.length := by simpa using h1
   have h2' : j < qs.length := by simpa using h2
   refine gz9 fun _ bk0 => ?_
   obtain ⟨t, et, ht, _⟩ := Sx.pair_at (i := j) (a := rs[j]) hp (by simp [h1'])
   obtain ⟨t', et', ht', _⟩ := Sx.pair_at (i := j) (a := qs[j]) hq (by simp [h2'])
   refine bk0 ?_
   obtain ⟨e1, e2⟩ : ts.getD j [] = t /\ us.getD j [] = t' := ⟨by simp [et], by simp [et']⟩
   rw [e1, e2]
   simp only [List.getElem_toArray, List.getElem_map]
   exact Sx.eqAt_tups (I.tupI ht) (I.tupI ht') hu
  rw [show (rs.map Value.ref).toArray.size = ts.length by simp [l1], all_eqL ts us (by (first | lia | omega))] at this
  exact this X.prog X.w _ _ ⟨.bl _, H, I, rfl, q⟩
end
end L2
namespace L2
open PySem PySem.Spec PyProof.Rows
noncomputable def tLV (K : W.Frag) (ta : TA) : TE := fun σ H Q => ta σ H fun vs H1 => ∃ a xs, vs = [.ref a] /\ SqL K H1 a xs /\ ∀ l, H1 l = none -> Q (.ref l) (upd H1 l (.lst xs.reverse))
end L2
namespace L2
open PySem PySem.Spec PyProof.Rows
noncomputable def unlike (t : List Int) : Nat := (firstMet (fun i => t.getD i 0) t.length).length
noncomputable def tLenSet (K : W.Frag) (ta : TA) : TE := fun σ H Q => ta σ H fun vs H1 => ∃ (a : Addr) (t : List Int), vs = [.ref a] /\ SqL K H1 a (t.map V.int) /\ t.length <= 1000 /\ Q (.int (unlike t)) H1
end L2
namespace Mt
theorem scan_ok {m : Int} : ∀ {T : List Tri} {seen : List (List Int)}, (seen ++ T.map key).Nodup -> (∀ t ∈ T, ¬ bad m t.1 t.2.1) -> scan m T seen = .good
 | [], _, _, _ => rfl
 | t :: r, seen, hn, hb => by
  rw [scan_cons, if_neg (hb t (.head _))]
  have e : seen ++ (t :: r).map key = (seen ++ [key t]) ++ r.map key := by simp
  rw [e] at hn
  have hk : ¬ (seen.any fun k => decide (k = key t)) = true := fun z => by
   obtain ⟨k, hk, ek⟩ := List.any_eq_true.mp z
   have ek := of_decide_eq_true ek
   have h1 := (List.nodup_append.mp hn).1
   exact (List.nodup_append.mp h1).2.2 k hk (key t) (.head _) ek
  rw [if_neg hk]
  exact scan_ok hn fun u hu => hb u (.tail _ hu)
end Mt
namespace L2
open PySem PySem.Spec PyProof.Rows
theorem PS.imp {X : Cx} {st : Stmt} {t t' : TS} (h : PS X st t) (i : ∀ D σ H, t' D σ H -> t D σ H) : PS X st t' := fun pins s σ H D I q => h pins s σ H D I (i D σ H q)
theorem pick2 {xs : List Int} {z : Int} (h0 : 0 <= z) (h1 : z < xs.length) : ∃ v : Int, v ∈ xs /\ atI (xs.map V.int) z = some (.int v) := by
 have hz : z.toNat < xs.length := by (first | lia | omega)
 refine ⟨xs[z.toNat], by simp, ?_⟩
 have := atI_nat (xs := xs.map V.int) (j := z.toNat) (v := .int xs[z.toNat]) (by simp [hz])
 rwa [Int.toNat_of_nonneg h0] at this
theorem TupsH.at' {H H' : Hp} {rs : List Addr} {ts : List (List Int)} (h : TupsH H rs ts) (k : ∀ b xs, H b = some (.tup xs) -> H' b = some (.tup xs)) : TupsH H' rs ts :=
 zip_paired (Paired.length h) fun z hz => ⟨k _ _ (paired_zip h z hz).1, (paired_zip h z hz).2⟩
theorem tup_at {rs : List Addr} {ts : List (List Int)} {H : Hp} {i : Nat} {x : V} (h : TupsH H rs ts) (e : (rs.map V.ref)[i]? = some x) : ∃ r t, x = .ref r /\ ts[i]? = some t /\ H r = some (.tup (t.map V.int)) := by
 rw [List.getElem?_map] at e
 cases er : rs[i]? with
 | none => rw [er] at e; cases e
 | some r =>
  rw [er] at e
  refine gz9 fun _ bk0 => ?_
  obtain ⟨t, et, ht, _⟩ := Sx.pair_at (i := i) (a := r) h er
  refine bk0 ?_
  exact ⟨r, t, (Option.some.inj e).symm, et, ht⟩
theorem map_int_at {xs : List Int} {i : Nat} {v : V} (h : (xs.map V.int)[i]? = some v) : ∃ z, v = .int z /\ xs[i]? = some z := by
 rw [List.getElem?_map] at h
 cases e : xs[i]? with
 | none => rw [e] at h; cases h
 | some z => rw [e] at h; exact ⟨z, (Option.some.inj h).symm, rfl⟩
theorem cut_int (ns : List Int) (lo hi : Option Int) (i : Nat) (x : V) (h : (cutV (ns.map V.int) lo hi)[i]? = some x) : ∃ z : Int, x = .int z := by
 unfold cutV at h
 have m := List.mem_of_getElem? h
 have m2 := List.mem_of_mem_drop (List.mem_of_mem_take m)
 obtain ⟨z, _, e⟩ := List.mem_map.mp m2
 exact ⟨z, e.symm⟩
noncomputable def cutA {α : Type} (xs : List α) (lo hi : Option Int) : List α := (xs.drop (HT.sIx xs.length 0 lo)).take (HT.sIx xs.length xs.length hi - HT.sIx xs.length 0 lo)
theorem cut_map {α : Type} (f : α -> V) (xs : List α) (lo hi : Option Int) : cutV (xs.map f) lo hi = (cutA xs lo hi).map f := by
 unfold cutV cutA
 rw [List.length_map, List.map_take, List.map_drop]
theorem sIx_lo (n : Nat) {i : Int} (h : 0 <= i) : HT.sIx n 0 (some i) = min i.toNat n := by
 unfold HT.sIx
 dsimp only
 rw [if_neg (by (first | lia | omega))]
theorem sIx_hi (n : Nat) {i : Int} (h : 0 <= i) : HT.sIx n n (some i) = min i.toNat n := by
 unfold HT.sIx
 dsimp only
 rw [if_neg (by (first | lia | omega))]
noncomputable def Prs (H : Hp) (rs : List Addr) : Prop := ∀ r ∈ rs, ∃ x y : Int, H r = some (.tup [.int x, .int y])
noncomputable def Two (ts : List (List Int)) : Prop := ∀ t ∈ ts, ∃ x y : Int, t = [x, y]
theorem Same.new' {H : Hp} {p : Addr} {o : HO} (h : H p = none) : Same H (upd H p o) := fun b u e => by
 rw [upd_ne (ne_of_none e h)]
 exact e
end L2
namespace L2
open PySem PySem.Spec PyProof.Rows
section
variable {X : Cx}
theorem size_push_lt {h : Heap} {o : Obj} {b : Addr} (e : b < h.objs.size) : b < (h.push o).objs.size := by
 rw [size_push']
 exact Nat.lt_succ_of_lt e
theorem call_sumI (hc : X.calm = true) : CallR X (.builtin "sum") (fun vs H Q => ∃ (a : Addr) (t : List Int), vs = [.ref a] /\ SqL X.K H a (t.map V.int) /\ Q (.int t.sum) H) := by
 intro pins s σ H vs us Q I r h
 refine gz9 fun _ bk0 => ?_
 obtain ⟨a, t, rfl, hq, q⟩ := h
 obtain ⟨u, rfl, ru⟩ := vals1 r
 refine bk0 ?_
 cases ru
 refine gz9 fun _ bk0 => ?_
 obtain ⟨its, rv, pl, hz⟩ := I.list hq
 refine bk0 ?_
 have hi := intsAre_of rv
 have hlen : its.length = t.length := hi.length
 have hl := pl.isList
 have hlt : a < s.heap.objs.size := by obtain ⟨_, e, _⟩ := hl; exact Heap.lt_size e
 refine PySem.call_sum_walkAnyS (wpAny_pyIter_list hl ?_)
 refine ⟨s.heap.objs.size, [s.heap.objs.size, a], [s.heap.objs.size], _, its.toArray.size, _, _, fun i => t.getD i 0, rfl, (Walks.list (A := X.A.in1) (I.ok.hd hc) _ a (Nat.ne_of_lt hlt) its.toArray).toS,
  ⟨⟨_, Heap.get?_push_size _ rfl, rfl, rfl⟩, hl.push _⟩, fun b hb => ?_, fun i v hP => ?_, fun s' t' mv => ?_⟩
 ·rcases List.mem_cons.mp hb with rfl | hb
  ·rw [size_push']; exact Nat.lt_succ_self _
  ·rw [List.mem_singleton] at hb
   subst hb
   exact size_push_lt hlt
 ·exact Sx.ints_at (i := i) (v := v) hi (by simpa using hP)
 ·have e := mv.eq_with
  rw [e]
  have e2 : preSum (fun i => t.getD i 0) its.toArray.size = t.sum := by
   rw [PyProof.Rows.preSum_getD, List.size_toArray, hlen, List.take_length]
  rw [e2]
  exact ⟨.int t.sum, H, I.kept fun b x z => mv.heap b x (fun hm => by rw [List.mem_singleton.mp hm] at z; exact Nat.lt_irrefl _ (Heap.lt_size z)) (Heap.get?_push_of_some _ z), ⟨_, rfl⟩, q⟩
theorem mt_index : MtM X "list.index" (fun x vs H Q => ∃ (l : Addr) (t : List Int) (z : Int) (j : Nat), x = .ref l /\ vs = [.int z] /\ H l = some (.lst (t.map V.int)) /\ t[j]? = some z /\ (∀ i, i < j -> t[i]? ≠ some z) /\ Q (.int j) H) := by
 intro pins s σ H x vs v us Q I rx rv h
 refine gz9 fun _ bk0 => ?_
 obtain ⟨l, t, z, j, rfl, rfl, hH, hj, hf, q⟩ := h
 refine bk0 ?_
 cases rx
 refine gz9 fun _ bk0 => ?_
 obtain ⟨u, rfl, ru⟩ := Vals.one rv
 obtain ⟨tk, rfl⟩ := ru
 obtain ⟨zz, its, n, r, hl, e⟩ := I.lstM hH
 refine bk0 ?_
 have hi := intsAre_of r
 have hlen : its.length = t.length := hi.length
 have hjl : j < t.length := (List.getElem?_eq_some_iff.mp hj).1
 have at_ : ∀ m (hm : m < its.toArray.size), ∃ t', its.toArray[m] = .int (t.getD m 0) t' := fun m hm => Sx.ints_at (i := m) (v := its.toArray[m]) hi (by simp)
 have hln := line63
 rw [List.length_map] at zz
 refine call_meets PySem.F.slot_list_index ⟨_, e, rfl⟩ PySem.F.entry_list_index (PySem.F.args_list_index_2 _ _) (PySem.SeqAt.list_indexAt l its.toArray n none #[] (.int z tk) (fun y => match y with | .int a _ => a == z | _ => false) j (by rw [List.size_toArray]; (first | lia | omega)) (by (first | lia | omega)) ?_ ?_) ⟨e, ?_, ?_⟩
 ·obtain ⟨t', et⟩ := at_ j (by rw [List.size_toArray]; (first | lia | omega))
  rw [et]
  have : t.getD j 0 = z := by simp [hj]
  show (t.getD j 0 == z) = true
  rw [this]
  exact beq_self_eq_true z
 ·intro m hm hmj
  obtain ⟨t', et⟩ := at_ m hm
  rw [et]
  have hml : m < t.length := by rw [List.size_toArray] at hm; (first | lia | omega)
  have : t.getD m 0 ≠ z := fun y => hf m hmj (by rw [<- y]; simp [hml])
  show (t.getD m 0 == z) = false
  exact beq_eq_false_iff_ne.mpr this
 ·intro y hy
  refine gz9 fun _ bk0 => ?_
  obtain ⟨m, hm, rfl⟩ := Array.getElem_of_mem hy
  obtain ⟨t', et⟩ := at_ m hm
  refine bk0 ?_
  rw [et]
  exact SeqAt.EqAt.int_int _ _ _ _
 ·exact ⟨.int j, H, I.tok _, ⟨_, rfl⟩, q⟩
end
end L2
namespace L2
open PySem PySem.Spec PyProof.Rows
noncomputable def Its (lo st : Int) (n : Nat) : It := ⟨fun i _ => i < n, fun i H x H' => H' = H /\ x = .int (lo + i * st), fun i _ => n <= i⟩
theorem turn_rangeS {P : Program} {w : World} {K : W.Frag} {tg : Expr} (it : Addr) (lo st : Int) (n : Nat) : Turn P w K tg (Its lo st n) [it] it (fun i h => IsRangeIter h it (lo + (i : Nat) * st) ((n : Int) - (i : Nat)) st) where
 mem := by simp
 obj := fun i h st b hb => by
  have e : b = it := by simpa using hb
  subst e
  exact ⟨_, st, fun v z => by
   have z' : Data.fields _ = Data.cell v := z
   cases z'⟩
 keep := fun i h h' st k => k it (by simp) _ st
 item := by
  intro X hP hw hK hc i pins s σ H E I hf stt hg
  subst hP hw hK
  refine gz9 fun _ bk0 => ?_
  obtain ⟨f0, f1, f2, f3, f4, f5⟩ := hf it (by simp)
  refine bk0 ?_
  have W := Walks.range (prog := X.prog) (w := X.w) (I.ok.hd hc) it lo st n
  refine W.item i s _ _ hg stt fun v h' tk hv st' kk => ?_
  obtain ⟨t, rfl⟩ := hv
  have I1 : Inv X pins σ H { s with heap := h', toks := tk } := I.turned (fun b o hb e => kk b o (by simpa using hb) e) f0 f1 f3 f4 f5
  exact ⟨_, rfl, go_of (s := { s with heap := h', toks := tk }) (n := "range_iterator") st' rfl rfl (by decide) ⟨.int (lo + i * st), H, I1, ⟨t, rfl⟩, ⟨rfl, rfl⟩, st', fun b hb => (hf b hb).1⟩⟩
 done := by
  intro X hP hw hK hc i pins s σ H E I hf stt hg
  subst hP hw hK
  refine gz9 fun _ bk0 => ?_
  obtain ⟨f0, f1, f2, f3, f4, f5⟩ := hf it (by simp)
  refine bk0 ?_
  exact wpAny_pyNext_range_end (I.ok.hd hc) stt (by have : n <= i := hg; (first | lia | omega)) fun h' eb => ⟨rfl, I.turned (t' := s.toks) (fun b o hb e => eb b o hb e) f0 f1 f3 f4 f5⟩
 self := fun _ _ _ _ _ st h => wpAny_pyIter_rangeiter st h
section
variable {X : Cx} {tg : Expr}
theorem range_itS {pins : List (Addr × Obj)} {σ : St} {H : Hp} {s : Shared} {R : It -> Hp -> Prop} {E : Value -> Shared -> Prop} {lo hi st : Int} {n : Nat} {t u v : Tok} {tk : Nat} (I : Inv X pins σ H s) (hs : Builtin.Range.small lo hi st = true) (hn : Builtin.Range.rangeSize lo hi st = n)
  (q : R (Its lo st n) H) : wpAny (model X.prog X.w) X.A (pyIter (.ref s.heap.objs.size)) (PIE X pins σ tg R) E { s with heap := s.heap.push { cls := .type "range", data := .fields #[.int lo t, .int hi u, .int st v] }, toks := tk } := by
 refine wpAny_pyIter_range (IsRange.new ..) hs ?_
 have I1 : Inv X pins σ H { s with heap := s.heap.push { cls := .type "range", data := .fields #[.int lo t, .int hi u, .int st v] }, toks := tk } := I.kept fun b o e => Heap.get?_push_of_some _ e
 refine ⟨(s.heap.push { cls := .type "range", data := .fields #[.int lo t, .int hi u, .int st v] }).objs.size, [(s.heap.push { cls := .type "range", data := .fields #[.int lo t, .int hi u, .int st v] }).objs.size], _, _, H, rfl,
  I1.kept (t' := tk) fun b o e => Heap.get?_push_of_some _ e, turn_rangeS _ lo st n, ?_, fun b hb => ?_, q⟩
 ·have e1 : lo + ((0 : Nat) : Int) * st = lo := by simp
  have e2 : (n : Int) - ((0 : Nat) : Int) = Builtin.Range.rangeSize lo hi st := by rw [hn]; simp
  show IsRangeIter _ _ (lo + ((0 : Nat) : Int) * st) ((n : Int) - ((0 : Nat) : Int)) st
  rw [e1, e2]
  exact Heap.get?_push_size _ rfl
 ·have e : b = (s.heap.push { cls := .type "range", data := .fields #[.int lo t, .int hi u, .int st v] }).objs.size := by simpa using hb
  subst e
  exact I1.fpOk (Nat.le_refl _) (I1.hok.fresh (Nat.le_refl _))
theorem range2_size {n : Int} (h0 : -1 <= n) : Builtin.Range.rangeSize 0 n 2 = (((n + 1) / 2).toNat : Nat) := by
 unfold Builtin.Range.rangeSize
 rw [if_pos (by decide)]
 split <;> (first | lia | omega)
theorem range2_small {n : Int} (h0 : -1 <= n) (h1 : n <= 1000000) : Builtin.Range.small 0 n 2 = true := by
 unfold Builtin.Range.small
 rw [range2_size h0]
 unfold Builtin.Range.rangeFitsLong
 simp
 (first | lia | omega)
noncomputable def iRng02 (ta : TA) : TI := fun σ H R => ta σ H fun vs H1 => ∃ j : Int, vs = [.int 0, .int j, .int 2] /\ -1 <= j /\ j <= 1000000 /\ R (Its 0 2 ((j + 1) / 2).toNat) H1
theorem pi_range02 {a b c : Expr} {ta : TA} {p pos : Pos} (hg : Gl X "range") (hm : X.mg "range" = none) (ha : PA X [a, b, c] ta) (hs : starEach [a, b, c] X.env = (false, eval a X.env) :: starEach [b, c] X.env := by rfl) (hs2 : (backTo pos (starEach [b, c] X.env)).any (·.1) = false := by rfl) :
  PI X tg (.Call (.Name "range" p) [a, b, c] [] pos) (iRng02 ta) := by
 intro pins s σ H R I h
 refine Call_ (ld_blt I hg hm boot_range (PyProof.Rows.callWith_type1 (thn (ha pos pins s σ H _ I h) fun us s1 pk0 => ?_) hs hs2))
 refine gz9 fun _ bk0 => ?_
 obtain ⟨vs, H1, I1, r1, q1⟩ := pk0
 obtain ⟨j, e, j0, j1, q⟩ := q1
 refine bk0 ?_
 subst e
 cases r1 with
 | cons r rr =>
  cases rr with
  | cons r' rr =>
   cases rr with
   | cons r2 rr =>
    cases rr
    refine gz9 fun _ bk0 => ?_
    obtain ⟨t, rfl⟩ := r
    obtain ⟨t', rfl⟩ := r'
    obtain ⟨t2, rfl⟩ := r2
    refine bk0 ?_
    exact call_range_3 (by decide) (range_itS I1 (range2_small j0 j1) (range2_size j0) q) (.inl (PyProof.noPylong_small (by decide)))
theorem turns_rangeS {lo st : Int} {n : Nat} {D : Addr} {g : TG} {tt : TT} {te : TE} {σ0 : St} {Qd : Hp -> Prop} {H1 : Hp} (Pv : Nat -> List V -> St -> Hp -> Prop) (h0 : Pv 0 [] σ0 (upd H1 D (.lst [])))
  (hD : ∀ i ys σ H, Pv i ys σ H -> H D = some (.lst ys) /\ ys.length < sizeLine)
  (hs : ∀ i ys σ H, i < n -> Pv i ys σ H -> g (.int (lo + i * st)) σ H fun σ2 H4 => tt σ2 H4 fun c H5 => if c = true then te σ2 H5 fun y H6 => H6 D = some (.lst ys) /\ Nxt n i Pv (ys ++ [y]) σ2 (upd H6 D (.lst (ys ++ [y]))) else Nxt n i Pv ys σ2 H5)
  (hd : ∀ ys σ H, Pv n ys σ H -> Qd H) : tTurns (Its lo st n) g tt te σ0 D Qd H1 := by
 refine ⟨fun i m ys σ H => m = n - i /\ i <= n /\ Pv i ys σ H, ⟨n, by simp, Nat.zero_le _, h0⟩, ?_⟩
 rintro i m ys σ H ⟨rfl, hi, p⟩
 obtain ⟨d1, d2⟩ := hD i ys σ H p
 refine ⟨d1, ?_⟩
 by_cases hlt : i < n
 ·refine .inr ⟨hlt, d2, fun x H3 y => ?_⟩
  obtain ⟨e, y⟩ := y
  subst e y
  exact hs i ys σ _ hlt p
 ·have e : i = n := by (first | lia | omega)
  subst e
  exact .inl ⟨Nat.le_refl _, hd ys σ H p⟩
theorem pick_rev (its : List Value) : slicePick its.toArray none none (some (-1)) = its.reverse.toArray := by
 have h1 : sliceBounds none none (some (-1)) its.toArray.size = ((its.length : Int) - 1, -1, -1) := by
  simp [sliceBounds]
 unfold slicePick
 rw [h1]
 congr 1
 unfold sliceRange
 have hc : (if (-1 : Int) > 0 then if (its.length : Int) - 1 < -1 then (-1 - ((its.length : Int) - 1) + -1 - 1) / -1 else 0 else if (its.length : Int) - 1 > -1 then ((its.length : Int) - 1 - -1 - -1 - 1) / - -1 else 0) = (its.length : Int) := by
  rw [if_neg (by decide)]
  split
  ·have : - (-1 : Int) = 1 := by decide
   rw [this, Int.ediv_one]
   (first | lia | omega)
  ·(first | lia | omega)
 dsimp only
 rw [hc]
 apply List.ext_getElem?
 intro k
 rw [List.filterMap_map]
 have key : ∀ (l : List Nat), (∀ x ∈ l, x < its.length) -> List.filterMap ((fun x => its.toArray[x]?) ∘ fun (k : Nat) => ((its.length : Int) - 1 + -1 * (k : Int)).toNat) l = l.map fun k => its.getD (its.length - 1 - k) .none := by
  intro l
  induction l with
  | nil => intro _; rfl
  | cons x l ih =>
   intro h
   have hx := h x (.head _)
   have e : ((its.length : Int) - 1 + -1 * (x : Int)).toNat = its.length - 1 - x := by (first | lia | omega)
   have hl : its.length - 1 - x < its.length := by (first | lia | omega)
   rw [List.filterMap_cons]
   have : ((fun x => its.toArray[x]?) ∘ fun (k : Nat) => ((its.length : Int) - 1 + -1 * (k : Int)).toNat) x = some (its.getD (its.length - 1 - x) .none) := by
    show its.toArray[((its.length : Int) - 1 + -1 * (x : Int)).toNat]? = _
    rw [e]
    simp [hl]
   rw [this, List.map_cons, ih fun y hy => h y (.tail _ hy)]
 rw [key _ fun x hx => by have := List.mem_range.mp hx; (first | lia | omega)]
 rw [List.getElem?_map]
 by_cases hk : k < its.length
 ·have e2 : (List.range (its.length : Int).toNat)[k]? = some k := by simp [hk]
  rw [e2, List.getElem?_reverse hk]
  simp [show its.length - 1 - k < its.length by (first | lia | omega)]
 ·have e2 : (List.range (its.length : Int).toNat)[k]? = none := by simp; (first | lia | omega)
  rw [e2]
  symm
  simp
  (first | lia | omega)
theorem Vals.reverse' : ∀ {xs : List V} {us : List Value}, Vals xs us -> Vals xs.reverse us.reverse
 | _, _, .nil => .nil
 | _, _, .cons r t => by
  rw [List.reverse_cons, List.reverse_cons]
  exact (Vals.reverse' t).append (.cons r .nil)
noncomputable def tRevS (K : W.Frag) (te ts : TE) : TE := fun σ H Q => te σ H fun x H1 => ts σ H1 fun y H2 => y = .int (-1) /\ ∃ a xs, x = .ref a /\ SqL K H2 a xs /\ ∀ p, H2 p = none -> Q (.ref p) (upd H2 p (.lst xs.reverse))
theorem pe_rev {e st : Expr} {te ts : TE} {p2 pos : Pos} (he : PE X e te) (hst : PE X st ts) : PE X (.Subscript e (.Slice none none (some st) p2) pos) (tRevS X.K te ts) := by
 intro pins s σ H Q I h
 refine Subscript_ (thn (he pins s σ H _ I h) fun v s1 pk0 => ?_)
 refine gz9 fun _ bk0 => ?_
 obtain ⟨x, H1, I1, r1, q1⟩ := pk0
 refine bk0 ?_
 refine wpAny_Slice ?_
 rw [evalPart_none, evalPart_some]
 refine wpAny_pure (wpAny_pure (thn (hst pins s1 σ H1 _ I1 q1) fun u s3 pk0 => ?_))
 refine gz9 fun _ bk0 => ?_
 obtain ⟨y, H3, I3, ry, q3⟩ := pk0
 obtain ⟨rfl, a, xs, rfl, hx, q⟩ := q3
 obtain ⟨tk, rfl⟩ := ry
 refine bk0 ?_
 cases r1
 have I4 : Inv X pins σ H3 { s3 with heap := s3.heap.push { cls := .type "slice", data := .fields #[.none, .none, .int (-1) tk] } } := I3.kept (t' := s3.toks) fun b ob q => Heap.get?_push_of_some _ q
 refine gz9 fun _ bk0 => ?_
 obtain ⟨its, r, ht, hz⟩ := I4.list hx
 refine bk0 ?_
 have hlen := r.length
 have hg : wpAny (model X.prog X.w) X.A (getItem (.ref a) (.ref s3.heap.objs.size)) (EP X pins σ Q) X.xe { s3 with heap := s3.heap.push { cls := .type "slice", data := .fields #[.none, .none, .int (-1) tk] } } := by
  refine wpAny_getItem_list_slice ht.isList (Heap.IsSliceOf.new ..) .none .none (.int (-1) tk) (by decide) ?_ (by rw [List.size_toArray] <;> (first | lia | omega))
  rw [pick_rev]
  refine ⟨.ref _, _, I4.laid (t' := s3.toks) (o := .lst xs.reverse) (fun b ob q => Heap.get?_push_of_some _ q) (Nat.le_refl _) ?_, rfl, q _ (I4.hok.fresh (Nat.le_refl _))⟩
  exact ⟨by rw [List.length_reverse]; exact hz, _, 0, Vals.reverse' r, Heap.get?_push_size _ rfl⟩
 show wpAny (model X.prog X.w) X.A (subscriptTail e (.Slice none none (some st) p2) (.ref a) (.ref s3.heap.objs.size)) (EP X pins σ Q) X.xe { s3 with heap := s3.heap.push { cls := .type "slice", data := .fields #[.none, .none, .int (-1) tk] } }
 exact tail_any (ops := [.ref a, .ref s3.heap.objs.size]) ht.isList.typeIs slot_list_getitem.lookup hg (by with_unfolding_all rfl)
end
end L2
namespace L2
open PySem PySem.Spec PyProof.Rows
section
variable {X : Cx} {pins : List (Addr × Obj)} {σ : St} {H : Hp} {s : Shared}
theorem Inv.freeze {d : Addr} {o : Obj} {kvs : List (List Key × V)} (I : Inv X pins σ H s) (e : H d = some (.dT kvs)) (ho : s.heap.get? d = some o) : Inv X pins σ (upd H d (.frz o (.dT kvs))) s := by
 have k : ∀ b u, H b = some u -> (∀ l, u ≠ .dT l) -> upd H d (.frz o (.dT kvs)) b = some u := fun b u eb n => by
  rw [upd_ne fun z => ?_]
  ·exact eb
  ·rw [z, e] at eb; cases eb; exact n _ rfl
 have st : ∀ b u, H b = some u -> ObjOk X.prog X.w (upd H d (.frz o (.dT kvs))) s.heap b u := fun b u eb =>
  (I.hok b u eb).stay (fun _ _ _ q => q) (fun c q => k c _ q (by intro l z; cases z)) fun c xs q => k c _ q (by intro l z; cases z)
 have := I.un (t' := s.toks) (h' := s.heap) (H' := upd H d (.frz o (.dT kvs))) ⟨fun b o q _ _ _ => q, fun b o q _ _ _ => ⟨o.slots, q⟩, fun b o q n _ => ?_, fun b o q _ => ⟨o, q⟩, fun b xs q => k b _ q (by intro l z; cases z), fun b o u q => k b _ q (by intro l z; cases z), fun b ps q => ⟨#[], by rw [k b _ q (by intro l z; cases z)]; simp⟩⟩ fun b u q => ?_
 ·exact this
 ·rw [upd_ne fun z => ?_]
  ·exact n
  ·rw [z, e] at n; cases n
 ·by_cases hb : b = d
  ·subst hb
   rw [upd_same] at q
   cases q
   exact ⟨ho, st _ _ e⟩
  ·rw [upd_ne hb] at q
   exact st b u q
end
noncomputable def Itd (d : Addr) (o : Obj) (u : HO) (rs : List Addr) : It :=
 ⟨fun i H => i < rs.length /\ H d = some (.frz o u), fun i H x H' => H' = H /\ ∃ r, rs[i]? = some r /\ x = .ref r, fun i H => rs.length <= i /\ H d = some (.frz o u)⟩
theorem turn_dict {P : Program} {w : World} {K : W.Frag} {tg : Expr} (it d : Addr) (o : Obj) (u : HO) (es : Array DictEntry) (ep : Nat) (rs : List Addr) (hx : o.ExactDict) (hd : o.data = .dict es ep) (hk : es.toList.map (·.key) = rs.map Value.ref) : Turn P w K tg (Itd d o u rs) [it] it (fun i h => h.IsKeyIter it d i es.size ep) where
 mem := by simp
 obj := fun i h st b hb => by
  have e : b = it := by simpa using hb
  subst e
  refine gz9 fun _ bk0 => ?_
  obtain ⟨o, e, c, d⟩ := st
  refine bk0 ?_
  exact ⟨o, e, fun v z => by rw [d] at z; cases z⟩
 keep := fun i h h' st k => st.at fun o e => k it (by simp) o e
 item := by
  intro X hP hw hK hc i pins s σ H E I hf st hg
  subst hP hw hK
  refine gz9 fun _ bk0 => ?_
  obtain ⟨hi, hq⟩ := hg
  obtain ⟨ho, _⟩ := (show ObjOk X.prog X.w H s.heap d (.frz o u) from I.hok d _ hq)
  have hlen : es.size = rs.length := by rw [<- Array.length_toList, <- List.length_map (f := (·.key)), hk, List.length_map]
  have hi' : i < es.size := by (first | lia | omega)
  obtain ⟨f0, f1, f2, f3, f4, f5⟩ := hf it (by simp)
  refine bk0 ?_
  refine Sx.next_dictE (e := es[i]) st ⟨o, ho, hx, hd⟩ (by simp [hi']) fun h' st' sb => ?_
  have I1 : Inv X pins σ H { s with heap := h' } := I.turned (t' := s.toks) (fun b o hb e => (sb.2 b hb).trans e) f0 f1 f3 f4 f5
  refine gz9 fun _ bk0 => ?_
  obtain ⟨o', e, c, d'⟩ := id st'
  refine bk0 ?_
  have ek : es[i].key = .ref rs[i] := by
   have := congrArg (fun l => l[i]?) hk
   simpa [hi, hi'] using this
  exact ⟨es[i].key, rfl, go_of (s := { s with heap := h' }) e c d' (by decide) ⟨.ref rs[i], H, I1, ek, ⟨rfl, _, by simp [hi], rfl⟩, st', fun b hb => (hf b hb).1⟩⟩
 done := by
  intro X hP hw hK hc i pins s σ H E I hf st hg
  subst hP hw hK
  refine gz9 fun _ bk0 => ?_
  obtain ⟨hi, hq⟩ := hg
  obtain ⟨ho, _⟩ := (show ObjOk X.prog X.w H s.heap d (.frz o u) from I.hok d _ hq)
  have hlen : es.size = rs.length := by rw [<- Array.length_toList, <- List.length_map (f := (·.key)), hk, List.length_map]
  obtain ⟨f0, f1, f2, f3, f4, f5⟩ := hf it (by simp)
  refine bk0 ?_
  exact Sx.end_dictE (I.ok.hd hc) st ⟨o, ho, hx, hd⟩ (by (first | lia | omega)) fun h' eb => ⟨rfl, I.turned (t' := s.toks) (fun b o hb e => eb b o hb e) f0 f1 f3 f4 f5⟩
 self := fun _ _ _ _ _ st h => wpAny_pyIter_keyiter st h
section
variable {X : Cx} {tg : Expr}
noncomputable def iDict (tl : TE) : TI := fun σ H R => tl σ H fun x H1 => ∃ (d : Addr) (kvs : List (List Key × V)) (ts : List (List Int)), x = .ref d /\ H1 d = some (.dT kvs) /\ kvs.map (·.1) = ts.map (·.map Sum.inl) /\ (∀ t ∈ ts, t ≠ []) /\ ∀ (o : Obj) (rs : List Addr), TupsH (upd H1 d (.frz o (.dT kvs))) rs ts -> R (Itd d o (.dT kvs) rs) (upd H1 d (.frz o (.dT kvs)))
theorem keys_tups {H : Hp} : ∀ {l : List (List Key × V)} {m : List (List Key × Addr × Value)} {ts : List (List Int)}, KT H l m -> l.map (·.1) = ts.map (·.map Sum.inl) -> (∀ t ∈ ts, t ≠ []) -> TupsH H (m.map (·.2.1)) ts := by
 intro l m ts q
 induction q generalizing ts with
 | nil =>
  intro e _
  cases ts with
  | nil => exact .nil
  | cons t ts => simp at e
 | @cons p q' ps qs hq t ih =>
  intro e hn
  cases ts with
  | nil => simp at e
  | cons t0 ts =>
   rw [List.map_cons, List.map_cons] at e
   injection e with ea eb
   refine .cons ⟨?_, hn t0 (.head _)⟩ (ih eb fun t ht => hn t (.tail _ ht))
   have := hq.2.1
   rw [ea, List.map_map] at this
   exact this
theorem pi_dict {l : Expr} {tl : TE} (hl : PE X l tl) : PI X tg l (iDict tl) := by
 intro pins s σ H R I h
 refine thn (hl pins s σ H _ I h) fun v s1 pk0 => ?_
 refine gz9 fun _ bk0 => ?_
 obtain ⟨x, H1, I1, r1, q1⟩ := pk0
 obtain ⟨d, kvs, ts, rfl, hd, hk, hne, q⟩ := q1
 refine bk0 ?_
 cases r1
 refine gz9 fun _ bk0 => ?_
 obtain ⟨z, lo, xs, rel, o, es, ep, e1, e2, e3, e4, _⟩ := (show ObjOk X.prog X.w H1 s1.heap d (.dT kvs) from I1.hok d _ hd)
 refine bk0 ?_
 have hT : TupsH H1 (xs.map (·.2.1)) ts := keys_tups rel hk hne
 have hT' : TupsH (upd H1 d (.frz o (.dT kvs))) (xs.map (·.2.1)) ts := TupsH.at' hT fun b ys e => by rw [upd_ne (ne_of e hd (by intro z; cases z))]; exact e
 have I2 := I1.freeze hd e1
 refine Sx.iter_dictE lo ⟨o, e1, e2, e3⟩ ?_
 refine ⟨s1.heap.objs.size, [s1.heap.objs.size], _, Itd d o (.dT kvs) (xs.map (·.2.1)), _, rfl, I2.kept (t' := s1.toks) fun b o e => Heap.get?_push_of_some _ e, turn_dict _ d o _ es ep _ e2 e3 ?_, ⟨_, Heap.get?_push_size _ rfl, rfl, rfl⟩, fun b hb => ?_, q o _ hT'⟩
 ·rw [e4, List.map_map, List.map_map]
  rfl
 ·have e : b = s1.heap.objs.size := by simpa using hb
  subst e
  exact I2.fpOk (Nat.le_refl _) (I2.hok.fresh (Nat.le_refl _))
theorem for_dict {d : Addr} {o : Obj} {u : HO} {rs : List Addr} {g : TG} {tb : TS} {D : Ends} {σ : St} {H : Hp} (Pv : Nat -> St -> Hp -> Prop) (h0 : Pv 0 σ H) (ha : ∀ i σ H, i <= rs.length -> Pv i σ H -> H d = some (.frz o u))
  (hs : ∀ i r σ H, rs[i]? = some r -> Pv i σ H -> g (.ref r) σ H fun σ2 H2 => tb { D with nx := Pv (i + 1), ct := Pv (i + 1), bk := D.nx } σ2 H2) (hd : ∀ σ H, Pv rs.length σ H -> D.nx σ H) :
  ∃ W : Nat -> Nat -> St -> Hp -> Prop, (∃ m, W 0 m σ H) /\ ∀ i m σ H, W i m σ H →
   ((Itd d o u rs).stop i H /\ D.nx σ H) \/ ((Itd d o u rs).go i H /\ ∃ N : St -> Hp -> Prop, (∀ σ' H', N σ' H' -> ∃ m', m' < m /\ W (i + 1) m' σ' H') /\ ∀ x H', (Itd d o u rs).yld i H x H' -> g x σ H' fun σ2 H2 => tb { D with nx := N, ct := N, bk := D.nx } σ2 H2) := by
 refine ⟨fun i m σ H => m + i = rs.length /\ Pv i σ H, ⟨rs.length, rfl, h0⟩, ?_⟩
 rintro i m σ H ⟨e, p⟩
 have q := ha i σ H (by (first | lia | omega)) p
 rcases Nat.eq_zero_or_pos m with rfl | pm
 ·have e' : i = rs.length := by (first | lia | omega)
  subst e'
  exact .inl ⟨⟨Nat.le_refl _, q⟩, hd σ H p⟩
 ·have i1 : i < rs.length := by (first | lia | omega)
  refine .inr ⟨⟨i1, q⟩, Pv (i + 1), fun σ' H' p' => ⟨m - 1, by (first | lia | omega), by (first | lia | omega), p'⟩, ?_⟩
  rintro x H' ⟨rfl, r, er, rfl⟩
  exact hs i r σ _ er p
end
section
variable {X : Cx} {pins : List (Addr × Obj)} {σ : St} {H : Hp} {s : Shared}
end
end L2
namespace L2
open PySem PySem.Spec PyProof.Rows
theorem cutA_drop {α : Type} (xs : List α) {i : Int} (h : 0 <= i) : cutA xs (some i) none = xs.drop i.toNat := by
 unfold cutA
 rw [sIx_lo _ h]
 have e : HT.sIx xs.length xs.length none = xs.length := rfl
 rw [e]
 by_cases q : i.toNat <= xs.length
 ·rw [Nat.min_eq_left q, List.take_of_length_le (by rw [List.length_drop]; exact Nat.le_refl _)]
 ·rw [Nat.min_eq_right (by (first | lia | omega)), Nat.sub_self, List.take_zero, List.drop_eq_nil_of_le (by (first | lia | omega))]
theorem cutA_take {α : Type} (xs : List α) {i : Int} (h : 0 <= i) : cutA xs none (some i) = xs.take i.toNat := by
 unfold cutA
 rw [sIx_hi _ h]
 have e : HT.sIx xs.length 0 none = 0 := rfl
 rw [e, List.drop_zero, Nat.sub_zero]
 by_cases q : i.toNat <= xs.length
 ·rw [Nat.min_eq_left q]
 ·rw [Nat.min_eq_right (by (first | lia | omega)), List.take_length, List.take_of_length_le (by (first | lia | omega))]
theorem atI_get' {xs : List Int} {z : Int} {k : Nat} (e : z = k) (h : k < xs.length) : atI (xs.map V.int) z = some (.int (xs.getD k 0)) := by
 subst e
 exact atI_nat (by simp [h])
theorem inV_ints (x : Int) (t : List Int) : inV (.int x) (t.map V.int) = decide (x ∈ t) := by
 unfold inV
 rw [List.any_map, Bool.eq_iff_iff, decide_eq_true_iff, List.any_eq_true]
 constructor
 ·rintro ⟨y, hy, e⟩
  have e : (y == x) = true := e
  exact beq_iff_eq.mp e ▸ hy
 ·exact fun h => ⟨x, h, beq_self_eq_true x⟩
theorem flat_ints (us : List Int) : (us.map V.int).all flatV = true := by
 rw [List.all_map]
 exact List.all_eq_true.mpr fun _ _ => rfl
theorem upto_succ (n : Nat) : upto (n + 1) = upto n ++ [(n : Int)] := by
 unfold upto
 rw [List.range_succ, List.map_append]
 rfl
theorem upto_len (n : Nat) : (upto n).length = n := by simp [upto]
theorem upto_nd (n : Nat) : (upto n).Nodup := by
 induction n with
 | zero => exact List.nodup_nil
 | succ n ih =>
  rw [upto_succ, List.nodup_append]
  refine ⟨ih, by simp, fun a ha b hb => ?_⟩
  rw [List.mem_singleton] at hb
  obtain ⟨k, hk, rfl⟩ := List.mem_map.mp ha
  have := List.mem_range.mp hk
  (first | lia | omega)
theorem upto_mem {n : Nat} {x : Int} : x ∈ upto n ↔ 0 <= x /\ x < n := by
 unfold upto
 rw [List.mem_map]
 constructor
 ·rintro ⟨k, hk, rfl⟩
  have := List.mem_range.mp hk
  (first | lia | omega)
 ·rintro ⟨h0, h1⟩
  exact ⟨x.toNat, List.mem_range.mpr (by (first | lia | omega)), by (first | lia | omega)⟩
theorem first_of {t : List Int} (h : t.Nodup) {j : Nat} {z : Int} (e : t[j]? = some z) : ∀ i, i < j -> t[i]? ≠ some z := fun i hi q => by
 have h : t.Pairwise (· ≠ ·) := h
 rw [List.pairwise_iff_getElem] at h
 obtain ⟨a, ea⟩ := List.getElem?_eq_some_iff.mp q
 obtain ⟨b, eb⟩ := List.getElem?_eq_some_iff.mp e
 exact h i j a b hi (ea.trans eb.symm)
theorem ix_listK {X : Cx} (K : W.Frag) (h : X.K = K) : IxR X (rIxL K) := by subst h; exact ix_list
theorem ix_tupK {X : Cx} (K : W.Frag) (h : X.K = K) : IxR X (rIxT K) := by subst h; exact ix_tup
end L2
namespace L2
open PySem PySem.Spec PyProof.Rows
noncomputable def alg : List Int -> List (List Int)
 | a :: b :: r => [Mt.lo a b, Mt.hi a b] :: alg (b :: r)
 | _ => []
theorem lo_comm (a b : Int) : Mt.lo a b = Mt.lo b a := by unfold Mt.lo; split <;> split <;> (first | lia | omega)
theorem hi_comm (a b : Int) : Mt.hi a b = Mt.hi b a := by unfold Mt.hi; split <;> split <;> (first | lia | omega)
theorem alg_snoc : ∀ (t : List Int) (a b : Int), alg (t ++ [a, b]) = alg (t ++ [a]) ++ [[Mt.lo a b, Mt.hi a b]]
 | [], a, b => rfl
 | [x], a, b => rfl
 | x :: y :: r, a, b => by
  show [Mt.lo x y, Mt.hi x y] :: alg ((y :: r) ++ [a, b]) = [Mt.lo x y, Mt.hi x y] :: alg ((y :: r) ++ [a]) ++ [[Mt.lo a b, Mt.hi a b]]
  rw [alg_snoc (y :: r) a b]
  rfl
noncomputable def altB : List Bool -> Bool
 | a :: b :: r => (!decide (a = b)) && altB (b :: r)
 | _ => true
noncomputable def prtP (ps : List (List Int)) : List (Key × V) := ps.foldl (fun d p => putK (putK d (.inl (p.getD 0 0)) (.int (p.getD 1 0))) (.inl (p.getD 1 0)) (.int (p.getD 0 0))) []
noncomputable def onl (ts us : List (List Int)) : List (List Int) := ts.filter fun t => !us.any fun u => decide (u = t)
noncomputable def xch (ps ts : List (List Int)) : List (List Int) := onl ps ts ++ onl ts ps
noncomputable def fitP (ps : List (List Int)) (x : Int) (k : List Int) : Prop := k ∈ ps \/ x ∉ ps.flatten
noncomputable def IsRow (Ks ps : List (List Int)) (t : List Int) : Prop := 2 <= t.length /\ t.Nodup /\ (∀ k ∈ alg t, k ∈ Ks) /\ altB ((alg t).map fun k => decide (k ∈ ps)) = true /\ fitP ps (t.getD 0 0) ((alg t).getD 0 []) /\ fitP ps (t.getD (t.length - 1) 0) ((alg t).getD (t.length - 2) [])
end L2
namespace L2
noncomputable def prs : List Int -> List (List Int)
 | a :: b :: r => [Mt.lo a b, Mt.hi a b] :: prs r
 | _ => []
theorem prs_len : ∀ os : List Int, (prs os).length = os.length / 2
 | [] => rfl
 | [_] => by simp [prs]
 | _ :: _ :: r => by
  show (prs r).length + 1 = (r.length + 1 + 1) / 2
  rw [prs_len r]
  (first | lia | omega)
theorem prs_get : ∀ (os : List Int) (i : Nat), 2 * i + 1 < os.length -> (prs os)[i]? = some [Mt.lo (os.getD (2 * i) 0) (os.getD (2 * i + 1) 0), Mt.hi (os.getD (2 * i) 0) (os.getD (2 * i + 1) 0)]
 | [], i, h => by simp at h
 | [_], i, h => by simp at h
 | a :: b :: r, 0, _ => rfl
 | a :: b :: r, i + 1, h => by
  have h' : 2 * i + 1 < r.length := by simp only [List.length_cons] at h; (first | lia | omega)
  have e1 : (a :: b :: r).getD (2 * (i + 1)) 0 = r.getD (2 * i) 0 := rfl
  have e2 : (a :: b :: r).getD (2 * (i + 1) + 1) 0 = r.getD (2 * i + 1) 0 := rfl
  rw [e1, e2]
  exact prs_get r i h'
theorem lohi_perm (a b : Int) : List.Perm [Mt.lo a b, Mt.hi a b] [a, b] := by
 unfold Mt.lo Mt.hi
 by_cases h : b < a
 ·rw [if_pos h, if_neg (by (first | lia | omega))]
  exact List.Perm.swap _ _ _
 ·rw [if_neg h]
  by_cases h2 : b > a
  ·rw [if_pos h2]
  ·rw [if_neg h2]
   have : a = b := by (first | lia | omega)
   rw [this]
theorem prs_flat : ∀ os : List Int, os.length % 2 = 0 -> (prs os).flatten.Perm os
 | [], _ => List.Perm.refl _
 | [_], h => by simp at h
 | a :: b :: r, h => by
  have h' : r.length % 2 = 0 := by simp only [List.length_cons] at h; (first | lia | omega)
  show ([Mt.lo a b, Mt.hi a b] ++ (prs r).flatten).Perm ([a, b] ++ r)
  exact (lohi_perm a b).append (prs_flat r h')
end L2
namespace L2
open PySem PySem.Spec PyProof.Rows
noncomputable def altL (A : List (List Int)) (u : Int) : Nat -> List (List Int)
 | 0 => []
 | i + 1 => altL A u i ++ (if (i : Int) % 2 = u then [A.getD i []] else [])
theorem mem_altL {A : List (List Int)} {u : Int} {x : List Int} : ∀ {n : Nat}, x ∈ altL A u n ↔ ∃ k : Nat, k < n /\ (k : Int) % 2 = u /\ A.getD k [] = x
 | 0 => ⟨fun h => (nomatch h), fun ⟨k, h, _⟩ => absurd h (Nat.not_lt_zero _)⟩
 | n + 1 => by
  show x ∈ altL A u n ++ _ ↔ _
  rw [List.mem_append, mem_altL (n := n)]
  constructor
  ·rintro (⟨k, h1, h2⟩ | h)
   ·exact ⟨k, by (first | lia | omega), h2⟩
   ·split at h
    ·rename_i c
     rw [List.mem_singleton] at h
     exact ⟨n, Nat.lt_succ_self n, c, h.symm⟩
    ·cases h
  ·rintro ⟨k, h1, h2, h3⟩
   by_cases c : k = n
   ·subst c
    right
    rw [if_pos h2, h3]
    exact .head _
   ·exact .inl ⟨k, by (first | lia | omega), h2, h3⟩
theorem getD_inj {A : List (List Int)} (h : A.Nodup) {i j : Nat} (hi : i < A.length) (hj : j < A.length) (e : A.getD i [] = A.getD j []) : i = j := by
 have h : A.Pairwise (· ≠ ·) := h
 rw [List.pairwise_iff_getElem] at h
 have e' : A[i] = A[j] := by simpa [hi, hj] using e
 rcases Nat.lt_trichotomy i j with q | q | q
 ·exact absurd e' (h i j hi hj q)
 ·exact q
 ·exact absurd e'.symm (h j i hj hi q)
theorem alg_sub : ∀ {t : List Int} {k : List Int}, k ∈ alg t -> ∃ x y, k = [x, y] /\ x ∈ t /\ y ∈ t
 | [], k, h => by simp [alg] at h
 | [_], k, h => by simp [alg] at h
 | a :: b :: r, k, h => by
  rcases List.mem_cons.mp (show k ∈ [Mt.lo a b, Mt.hi a b] :: alg (b :: r) from h) with rfl | h
  ·refine ⟨_, _, rfl, ?_, ?_⟩
   ·unfold Mt.lo; split <;> simp
   ·unfold Mt.hi; split <;> simp
  ·obtain ⟨x, y, e, hx, hy⟩ := alg_sub h
   exact ⟨x, y, e, .tail _ hx, .tail _ hy⟩
theorem lohi_mem (a b : Int) : a = Mt.lo a b \/ a = Mt.hi a b := by unfold Mt.lo Mt.hi; split <;> split <;> (first | lia | omega)
theorem prs_sub : ∀ {os : List Int} {k : List Int}, k ∈ prs os -> ∃ a b, k = [Mt.lo a b, Mt.hi a b] /\ a ∈ os /\ b ∈ os
 | [], k, h => by simp [prs] at h
 | [_], k, h => by simp [prs] at h
 | a :: b :: r, k, h => by
  rcases List.mem_cons.mp (show k ∈ [Mt.lo a b, Mt.hi a b] :: prs r from h) with rfl | h
  ·exact ⟨a, b, rfl, by simp, by simp⟩
  ·obtain ⟨x, y, e, hx, hy⟩ := prs_sub h
   exact ⟨x, y, e, .tail _ (.tail _ hx), .tail _ (.tail _ hy)⟩
theorem lo_in {a b : Int} {os : List Int} (ha : a ∈ os) (hb : b ∈ os) : Mt.lo a b ∈ os /\ Mt.hi a b ∈ os := by
 unfold Mt.lo Mt.hi
 constructor <;> split <;> assumption
structure Lay (t rest : List Int) (u : Int) (P : List (List Int)) : Prop where
 nd : (t ++ rest).Nodup
 l2 : 2 <= t.length
 ex : ∃ R : List (List Int), R.Sublist (prs rest) /\ P.Perm (altL (alg t) u (alg t).length ++ R)
end L2
namespace L2
open PySem PySem.Spec PyProof.Rows
noncomputable def Itn (K : W.Frag) (a : Addr) : It :=
  ⟨fun i H => ∃ xs x, SqL K H a xs /\ xs[i]? = some x,
   fun i H x H' => ∃ t u, x = .ref t /\ H t = none /\ H' = upd H t (.tup [.int i, u]) /\ ∀ xs, SqL K H a xs -> xs[i]? = some u,
   fun i H => ∃ xs, SqL K H a xs /\ xs.length <= i⟩
theorem turn_enum {P : Program} {w : World} {K : W.Frag} {elts : List Expr} {x1} {pos : Pos} {e it a : Addr} (D : e ≠ it) :
  Turn P w K (.Tuple elts x1 pos) (Itn K a) [e, it] e (fun i h => (∃ old, IsEnum h e it i old) /\ h.IsListIter it a i) where
 mem := by simp
 obj := fun i h st c hc => by
  refine gz9 fun _ bk0 => ?_
  obtain ⟨⟨u, s1⟩, ⟨o4, e4, _, d4⟩⟩ := st
  refine bk0 ?_
  simp only [List.mem_cons, List.not_mem_nil, or_false] at hc
  rcases hc with rfl | rfl
  ·exact ⟨_, s1, fun v q => by cases (show Data.fields _ = Data.cell v from q)⟩
  ·exact ⟨o4, e4, fun v q => by rw [d4] at q; cases q⟩
 keep := fun i h h' st k => by
  obtain ⟨⟨u, s1⟩, s4⟩ := st
  exact ⟨⟨u, k e (by simp) _ s1⟩, s4.at fun o q => k it (by simp) o q⟩
 item := by
  intro X hP hw hK hc i pins s σ H E I hf st hg
  subst hP hw hK
  refine gz9 fun _ bk0 => ?_
  obtain ⟨⟨u, s1⟩, s4⟩ := st
  obtain ⟨xs, x, hx, ex⟩ := hg
  obtain ⟨ia, ra, pa, za⟩ := I.list hx
  obtain ⟨vx, evx, rx⟩ := Vals.get ra ex
  refine bk0 ?_
  refine wpAny_pyNext_enum_item s1 s4 pa.isList (x := vx) (by simpa using evx) D fun h1 a1 a2 a3 a4 a5 => ⟨_, rfl, ?_⟩
  refine wpAny_letOwnedTupleGo_enum a1 fun h2 b1 sb => ?_
  have nz : ∀ {c : Addr} {o : Obj}, s.heap.get? c = some o -> s.heap.objs.size ≠ c := fun e => Nat.ne_of_gt (Heap.lt_size e)
  have hT : H s.heap.objs.size = none := I.hok.fresh (Nat.le_refl _)
  have tz : s.heap.objs.size ≠ e := nz s1
  have kept : ∀ c o, c ∉ [e, it] -> s.heap.get? c = some o -> h2.get? c = some o := fun c o hc e => by
   simp only [List.mem_cons, List.not_mem_nil, or_false, not_or] at hc
   exact sb.extBut c o hc.1 (a5 c o hc.1 hc.2 e)
  have pT := sb.extBut _ _ tz a3
  have I2 : Inv X pins σ (upd H s.heap.objs.size (.tup [.int i, x])) { s with heap := h2, toks := s.toks + 1 } := by
   refine I.turnedL kept hf (fun c u e => by rw [upd_ne (ne_of_none e hT)]; exact e) (fun c o _ e n => by rw [upd_ne (Ne.symm (nz e))]; exact n) fun c u e n => ?_
   by_cases ec : c = s.heap.objs.size
   ·subst ec
    rw [upd_same] at e
    cases e
    exact ⟨by show 2 <= sizeLine; decide, [.int i s.toks, vx], .cons ⟨_, rfl⟩ (.cons rx .nil), _, pT, rfl, 0, rfl⟩
   ·rw [upd_ne ec, n] at e
    cases e
  refine ⟨.ref s.heap.objs.size, _, I2, rfl, ⟨_, x, rfl, hT, rfl, fun xs' hx' => ?_⟩, ⟨⟨_, b1⟩, a2.extBut sb.extBut (Ne.symm D)⟩, fun c hc => ?_⟩
  ·rw [I.list_inj hx' hx]
   exact ex
  ·rw [upd_ne fun q => ?_]
   ·exact (hf c hc).1
   ·subst q
    simp only [List.mem_cons, List.not_mem_nil, or_false] at hc
    obtain ⟨_, e4, _⟩ := s4
    rcases hc with q | q
    ·exact nz s1 q
    ·exact nz e4 q
 done := by
  intro X hP hw hK hc i pins s σ H E I hf st hg
  subst hP hw hK
  refine gz9 fun _ bk0 => ?_
  obtain ⟨⟨u, s1⟩, s4⟩ := st
  obtain ⟨xs, hx, le⟩ := hg
  obtain ⟨ia, ra, pa, za⟩ := I.list hx
  refine bk0 ?_
  have la := Vals.length ra
  refine wpAny_pyNext_enum_end (I.ok.hd hc) s1 s4 pa.isList (by simp; (first | lia | omega)) fun h1 k => ⟨rfl, I.turnedL (t' := s.toks) (fun c o hc e => ?_) hf (fun _ _ e => e) (fun _ _ _ _ e => e) fun c u e n => by rw [n] at e; cases e⟩
  simp only [List.mem_cons, List.not_mem_nil, or_false, not_or] at hc
  exact k c o hc.2 e
 self := fun _ _ _ _ _ st h => by
  obtain ⟨⟨u, s1⟩, _⟩ := st
  exact wpAny_pyIter_enum s1 h
section
variable {X : Cx} {elts : List Expr} {x1 : Nat} {p0 : Pos}
theorem boot_enumerate : bootBuiltins "enumerate" = some (.type "enumerate") := by decide +kernel
noncomputable def iEnum (K : W.Frag) (ta : TA) : TI := fun σ H R => ta σ H fun vs H1 => ∃ a, vs = [.ref a] /\ (∃ xs, SqL K H1 a xs) /\ R (Itn K a) H1
theorem pi_enum {a : Expr} {ta : TA} {p pos : Pos} (hg : Gl X "enumerate") (hm : X.mg "enumerate" = none) (ha : PA X [a] ta) (hs : starEach [a] X.env = [(false, eval a X.env)] := by rfl) :
  PI X (.Tuple elts x1 p0) (.Call (.Name "enumerate" p) [a] [] pos) (iEnum X.K ta) := by
 intro pins s σ H R I h
 refine Call_ (ld_blt I hg hm boot_enumerate (PyProof.Rows.callWith_type1 (thn (ha pos pins s σ H _ I h) fun us s1 pk0 => ?_) hs rfl))
 refine gz9 fun _ bk0 => ?_
 obtain ⟨vs, H1, I1, r1, q1⟩ := pk0
 obtain ⟨l, rfl, ⟨xs, hx⟩, q⟩ := q1
 obtain ⟨u, rfl, ru⟩ := vals1 r1
 refine bk0 ?_
 cases ru
 refine gz9 fun _ bk0 => ?_
 obtain ⟨ia, ra, pa, za⟩ := I1.list hx
 refine bk0 ?_
 refine call_enumerate_list pa.isList fun h' c1 c2 c3 k => ?_
 refine wpAny_pyIter_enum (s := { s1 with heap := h' }) c1 ?_
 refine ⟨_, _, _, _, H1, rfl, I1.kept (t' := s1.toks) k, turn_enum (it := s1.heap.objs.size) (Nat.succ_ne_self _), ⟨⟨_, c1⟩, c2⟩, fun c hc => ?_, q⟩
 have ge : s1.heap.objs.size <= c := by
  simp only [List.mem_cons, List.not_mem_nil, or_false] at hc
  rcases hc with rfl | rfl <;> first | exact Nat.le_add_right _ _ | exact Nat.le_refl _
 exact I1.fpOk ge (I1.hok.fresh ge)
end
end L2
namespace Nx
open PySem PyProof.Rows
inductive LtL (A : Around) (s : Shared) : List Value -> List Value -> Bool -> Prop
 | nn : LtL A s [] [] false
 | nc {y : Value} {ws : List Value} : LtL A s [] (y :: ws) true
 | cn {x : Value} {vs : List Value} : LtL A s (x :: vs) [] false
 | eq {x y : Value} {vs ws : List Value} {r : Bool} : SeqAt.EqAt A.in1 s x y true -> LtL A s vs ws r -> LtL A s (x :: vs) (y :: ws) r
 | lt {x y : Value} {vs ws : List Value} {c : Bool} : SeqAt.EqAt A.in1 s x y false -> (∀ (prog : Program) (w : World) (E : Value -> Shared -> Prop) (Q : Value -> Shared -> Prop), Q (.bool c) s -> wpAny (model prog w) A.in1 (richCompare .Lt x y) Q E s) -> LtL A s (x :: vs) (y :: ws) c
section
open PySem.SeqAt
open PySem.AutoSeq1 (wpAny_loadPart')
open PySem.MeetsSeq PySem.MeetsSeq2 PySem.MeetsSeq3
theorem tuple_ltG (l b : Addr) (us qs : Array Value) (n n2 : Nat) (dd dd2 : Option Addr) (sl sl2 : Array (Option Value)) (r : Bool) :
  Meets (Builtin.«tuple.__lt__» ⟨[.ref l, .ref b], []⟩)
   (fun A R s => s.heap.get? l = some { cls := .type "tuple", dict := dd, data := .seq us n, slots := sl } /\ s.heap.get? b = some { cls := .type "tuple", dict := dd2, data := .seq qs n2, slots := sl2 } /\ LtL A s us.toList qs.toList r /\ R (.ok (.ret (.bool r))) s) :=
 .of_wp fun prog w A R s h => by
  refine gz9 fun _ bk0 => ?_
  obtain ⟨hp, g, d, tk, os⟩ := s; obtain ⟨hl, hb, hL, h⟩ := h
  refine bk0 ?_
  have f2 := AutoSeq1.sub_tuple_tuple
  wp_walk using wpAny_loadPart' hl, wpAny_loadPart' hb, wpAny_forIn_list _ (fun rest b s' => b.1 = none /\ s' = ⟨hp, g, d, tk, os⟩ /\ ∃ (vs ws : List Value), rest = vs.zip ws /\ LtL A ⟨hp, g, d, tk, os⟩ vs ws r /\ vs.length + qs.size = ws.length + us.size) _
  case turn =>
   rintro ⟨y, x⟩ rest b s' ⟨hb', rfl, vs, ws, hz, hL', hlen⟩
   cases hL' with
   | nn => rw [List.zip_nil_left] at hz; cases hz
   | nc => rw [List.zip_nil_left] at hz; cases hz
   | cn => rw [List.zip_nil_right] at hz; cases hz
   | eq he hr =>
    rw [List.zip_cons_cons] at hz
    injection hz with hyx hrest
    injection hyx with hy hx
    subst hy hx
    simp only [List.length_cons] at hlen
    refine wpAny_bind (he prog w _ _ ?_)
    wp_walk
    exact ⟨rfl, rfl, _, _, hrest, hr, by (first | lia | omega)⟩
   | lt he hr =>
    rw [List.zip_cons_cons] at hz
    injection hz with hyx hrest
    injection hyx with hy hx
    subst hy hx
    refine wpAny_bind (he prog w _ _ ?_)
    have hri := hr prog w
    wp_walk using hri
    exact ⟨_, rfl, by simpa using h⟩
  case fin =>
   rintro ⟨b1, b2⟩ s' ⟨hb', rfl, vs, ws, hz, hL', hlen⟩
   simp only at hb'
   subst hb'
   have hv : r = decide (us.size < qs.size) := by
    cases hL' with
    | nn => simp only [List.length_nil] at hlen; exact (decide_eq_false (by (first | lia | omega))).symm
    | nc => simp only [List.length_nil, List.length_cons] at hlen; exact (decide_eq_true (by (first | lia | omega))).symm
    | cn => simp only [List.length_nil, List.length_cons] at hlen; exact (decide_eq_false (by (first | lia | omega))).symm
    | eq _ _ => rw [List.zip_cons_cons] at hz; cases hz
    | lt _ _ => rw [List.zip_cons_cons] at hz; cases hz
   rw [hv] at h
   wp_walk
   exact ⟨_, rfl, by simpa [Builtin.Tuple.tupleCompareSizes] using h⟩
  case h =>
   exact ⟨rfl, rfl, us.toList, qs.toList, rfl, hL, by simp; (first | lia | omega)⟩
end
section
variable {prog : Program} {w : World} {A : Around} {E : Value -> Shared -> Prop} {s : Shared}
theorem lt_tupG {l b : Addr} {us qs : Array Value} {r : Bool} {Q : Value -> Shared -> Prop} (hl : IsTup s.heap l us) (hb : IsTup s.heap b qs) (hL : LtL A s us.toList qs.toList r) (hu : A.units < cLine) (h : Q (.bool r) s) : wpAny (model prog w) A (richCompare .Lt (.ref l) (.ref b)) Q E s := by
 refine gz9 fun _ bk0 => ?_
 obtain ⟨⟨cls, dd, data, sl⟩, ho, hc, n, hd⟩ := id hl
 obtain ⟨⟨cls2, dd2, data2, sl2⟩, ho2, hc2, n2, hd2⟩ := id hb
 refine bk0 ?_
 simp only at hc hd hc2 hd2
 subst hc hd hc2 hd2
 exact richCompare_meets_room (op := .Lt) ⟨_, ho, rfl⟩ ⟨_, ho2, rfl⟩ PySem.F.slot_tuple_lt PySem.F.entry_tuple_lt (PySem.F.args_tuple_lt_2 _ _) (tuple_ltG l b us qs n n2 dd dd2 sl sl2 r)
  ⟨ho, ho2, hL, show Value.bool r ≠ Value.notImplemented /\ Q (.bool r) s from ⟨(fun x => nomatch x), h⟩⟩ hu
end
end Nx
namespace Nx
open PySem PyProof.Rows
noncomputable abbrev Own (h : Heap) (S : Addr) (vs : Array Value) (c : Nat) : Prop := h.get? S = some { cls := .type "list", dict := none, data := .seq vs c, slots := #[] }
section
variable {prog : Program} {w : World} {A : Around} {R : Result -> Shared -> Prop} {I T S : Addr} {a b v : Value} {c : Nat} {z : Shared}
theorem minL_end (hh : A.handled = none) (hi : z.heap.IsTupleIter I T 2) (hT : z.heap.IsTuple T #[a, b]) (hS : Own z.heap S #[v, v] c) (n1 : I ≠ S)
  (q : ∀ h' tk, (∀ d o, d ≠ I -> d ≠ S -> z.heap.get? d = some o -> h'.get? d = some o) -> R (.ok (.ret v)) { z with heap := h', toks := tk }) : codeAny (model prog w) A (.builtin "min.loop" ⟨[.ref I, .none, .ref S], []⟩) R z := by
 refine codeAny_builtin F.entry_min_loop ?_
 rw [Around.under_plainId F.plain_min_loop _]
 show wpAny _ A.in1 (seqItems? (.ref S) >>= _) _ _ z
 refine wpAny_bind (wpAny_seqItems hS rfl ?_)
 show wpAny _ A.in1 (tryCatch (pyNext (.ref I)) _ >>= _) _ _ z
 refine wpAny_bind (wpAny_tryCatch (wpAny_pyNext_tuple_end (A := A.in1) hh hi hT rfl fun h1 k1 => ?_))
 have hS1 : Own h1 S #[v, v] c := k1 S _ n1.symm hS
 show wpAny _ A.in1 (updateSeq S (fun _ => #[]) >>= _) _ _ _
 refine wpAny_bind (wpAny_updateSeq hS1 rfl (wpAny_bind (wpAny_letGo (wpAny_pure ?_))))
 exact q _ z.toks fun d o dI dS e => (Heap.get?_update_other _ _ (Ne.symm dS)).trans (k1 d o dI e)
theorem minL_two {r : Bool} (hh : A.handled = none) (hi : z.heap.IsTupleIter I T 1) (hT : z.heap.IsTuple T #[a, b]) (hS : Own z.heap S #[a, a] c) (n1 : I ≠ S) (n2 : T ≠ S) (n3 : T ≠ I)
  (cmp : ∀ h' tk, (∀ d o, d ≠ I -> d ≠ S -> z.heap.get? d = some o -> h'.get? d = some o) -> ∀ (E : Value -> Shared -> Prop) (Q : Value -> Shared -> Prop), Q (.bool r) { z with heap := h', toks := tk } -> wpAny (model prog w) A.in1 (richCompare .Lt b a) Q E { z with heap := h', toks := tk })
  (q : ∀ h' tk, (∀ d o, d ≠ I -> d ≠ S -> z.heap.get? d = some o -> h'.get? d = some o) -> R (.ok (.ret (if r = true then b else a))) { z with heap := h', toks := tk }) : codeAny (model prog w) A (.builtin "min.loop" ⟨[.ref I, .none, .ref S], []⟩) R z := by
 have hname : (toString "min" ++ toString ".loop" : String) = "min.loop" := by decide
 refine codeAny_builtin F.entry_min_loop ?_
 rw [Around.under_plainId F.plain_min_loop _]
 show wpAny _ A.in1 (seqItems? (.ref S) >>= _) _ _ z
 refine wpAny_bind (wpAny_seqItems hS rfl ?_)
 show wpAny _ A.in1 (tryCatch (pyNext (.ref I)) _ >>= _) _ _ z
 refine wpAny_bind (wpAny_tryCatch (wpAny_pyNext_tuple_item hi hT (x := b) rfl fun h1 i1 s1 => ?_))
 have k1 : ∀ d o, d ≠ I -> z.heap.get? d = some o -> h1.get? d = some o := fun d o dI e => s1.extBut _ _ dI e
 have hS1 : Own h1 S #[a, a] c := k1 S _ n1.symm hS
 have hT1 : h1.IsTuple T #[a, b] := hT.extBut s1.extBut n3
 show wpAny _ A.in1 (tryCatch (holding [b, b] (richCompare .Lt b a >>= _)) _ >>= _) _ _ _
 refine wpAny_bind (wpAny_tryCatch (wpAny_holding (wpAny_bind (cmp h1 z.toks (fun d o dI _ e => k1 d o dI e) _ _ ?_))))
 refine wpAny_bind (wpAny_holding (wpAny_truthy_bool ?_))
 refine wpAny_bind (wpAny_letGo (wpAny_pure ?_))
 cases r with
 | true =>
  simp only [if_true]
  refine wpAny_bind (wpAny_updateSeq hS1 rfl (wpAny_bind (wpAny_letGo ?_)))
  rw [hname]
  have up : ∀ (g : Obj -> Obj) d o, d ≠ S -> h1.get? d = some o -> (h1.update S g).get? d = some o := fun g d o dS e => (Heap.get?_update_other _ _ (Ne.symm dS)).trans e
  refine wpAny_pure ⟨plainId_quiet F.plain_min_loop _, minL_end (v := b) hh (i1.at fun o e => up _ I o n1 e) (hT1.at fun o e => up _ T o n2 e) (Heap.get?_update_self _ hS1 rfl) n1 fun h' tk k => ?_⟩
  exact q h' tk fun d o dI dS e => k d o dI dS (up _ d o dS (k1 d o dI e))
 | false =>
  simp only [Bool.false_eq_true, if_false]
  refine wpAny_bind (wpAny_letGo ?_)
  rw [hname]
  refine wpAny_pure ⟨plainId_quiet F.plain_min_loop _, minL_end (v := a) hh i1 hT1 hS1 n1 fun h' tk k => ?_⟩
  exact q h' tk fun d o dI dS e => k d o dI dS (k1 d o dI e)
theorem minL_one {r : Bool} (hh : A.handled = none) (hi : z.heap.IsTupleIter I T 0) (hT : z.heap.IsTuple T #[a, b]) (hS : Own z.heap S #[] c) (n1 : I ≠ S) (n2 : T ≠ S) (n3 : T ≠ I)
  (cmp : ∀ h' tk, (∀ d o, d ≠ I -> d ≠ S -> z.heap.get? d = some o -> h'.get? d = some o) -> ∀ (E : Value -> Shared -> Prop) (Q : Value -> Shared -> Prop), Q (.bool r) { z with heap := h', toks := tk } -> wpAny (model prog w) A.in1 (richCompare .Lt b a) Q E { z with heap := h', toks := tk })
  (q : ∀ h' tk, (∀ d o, d ≠ I -> d ≠ S -> z.heap.get? d = some o -> h'.get? d = some o) -> R (.ok (.ret (if r = true then b else a))) { z with heap := h', toks := tk }) : codeAny (model prog w) A (.builtin "min.loop" ⟨[.ref I, .none, .ref S], []⟩) R z := by
 have hname : (toString "min" ++ toString ".loop" : String) = "min.loop" := by decide
 refine codeAny_builtin F.entry_min_loop ?_
 rw [Around.under_plainId F.plain_min_loop _]
 show wpAny _ A.in1 (seqItems? (.ref S) >>= _) _ _ z
 refine wpAny_bind (wpAny_seqItems hS rfl ?_)
 show wpAny _ A.in1 (tryCatch (pyNext (.ref I)) _ >>= _) _ _ z
 refine wpAny_bind (wpAny_tryCatch (wpAny_pyNext_tuple_item hi hT (x := a) rfl fun h1 i1 s1 => ?_))
 have k1 : ∀ d o, d ≠ I -> z.heap.get? d = some o -> h1.get? d = some o := fun d o dI e => s1.extBut _ _ dI e
 have hS1 : Own h1 S #[] c := k1 S _ n1.symm hS
 have hT1 : h1.IsTuple T #[a, b] := hT.extBut s1.extBut n3
 show wpAny _ A.in1 (updateSeq S (fun _ => #[a, a]) >>= _) _ _ _
 refine wpAny_bind (wpAny_updateSeq hS1 rfl ?_)
 rw [hname]
 have up : ∀ (g : Obj -> Obj) d o, d ≠ S -> h1.get? d = some o -> (h1.update S g).get? d = some o := fun g d o dS e => (Heap.get?_update_other _ _ (Ne.symm dS)).trans e
 have all : ∀ (g : Obj -> Obj) d o, d ≠ I -> d ≠ S -> z.heap.get? d = some o -> (h1.update S g).get? d = some o := fun g d o dI dS e => up g d o dS (k1 d o dI e)
 refine wpAny_pure ⟨plainId_quiet F.plain_min_loop _, minL_two (r := r) hh (i1.at fun o e => up _ I o n1 e) (hT1.at fun o e => up _ T o n2 e) (Heap.get?_update_self _ hS1 rfl) n1 n2 n3 (fun h' tk k E Q hq => ?_) fun h' tk k => ?_⟩
 ·exact cmp h' tk (fun d o dI dS e => k d o dI dS (all _ d o dI dS e)) E Q hq
 ·exact q h' tk fun d o dI dS e => k d o dI dS (all _ d o dI dS e)
end
section
variable {prog : Program} {w : World} {A : Around} {E : Value -> Shared -> Prop} {z : Shared}
theorem min_two {a b : Value} {r : Bool} {Q : Value -> Shared -> Prop} (hh : A.handled = none)
  (cmp : ∀ h' tk, (∀ d o, z.heap.get? d = some o -> h'.get? d = some o) -> ∀ (E : Value -> Shared -> Prop) (Q : Value -> Shared -> Prop), Q (.bool r) { z with heap := h', toks := tk } -> wpAny (model prog w) A.in1 (richCompare .Lt b a) Q E { z with heap := h', toks := tk })
  (q : ∀ h' tk, (∀ d o, z.heap.get? d = some o -> h'.get? d = some o) -> Q (if r = true then b else a) { z with heap := h', toks := tk }) : wpAny (model prog w) A (call (.builtin "min") [a, b]) Q E z := by
 have hname : (toString "min" ++ toString ".loop" : String) = "min.loop" := by decide
 refine call_function_tree F.kind_min F.plain_min F.entry_min (F.args_min2 _ _) ?_
 show wpAny _ A.in1 (Builtin.Builtins.bindParams "min" ["key", "default"] 0 ⟨[], []⟩ >>= _) _ _ z
 refine wpAny_bind (wpAny_of_eq (show Builtin.Builtins.bindParams "min" ["key", "default"] 0 ⟨[], []⟩ = pure [none, none] from rfl) ?_)
 show wpAny _ A.in1 (newTuple [a, b] >>= _) _ _ z
 refine wpAny_bind (wpAny_newObj_type ?_)
 have hT : (z.heap.push { cls := .type "tuple", data := .seq #[a, b] }).IsTuple z.heap.objs.size #[a, b] := ⟨_, Heap.get?_push_size _ rfl, rfl, 0, rfl⟩
 refine wpAny_bind (wpAny_pyIter_tuple hT ?_)
 refine wpAny_bind (wpAny_newObj_type ?_)
 rw [hname]
 let hA := z.heap.push { cls := .type "tuple", data := .seq #[a, b] }
 let hB := hA.push { cls := .type "tuple_iterator", data := .fields #[.ref z.heap.objs.size, .int 0 0] }
 let hC := hB.push { cls := .type "list", data := .seq #[] }
 have zA : hA.objs.size = z.heap.objs.size + 1 := Heap.size_push ..
 have zB : hB.objs.size = z.heap.objs.size + 2 := by rw [Heap.size_push, zA]
 have kC : ∀ d o, z.heap.get? d = some o -> hC.get? d = some o := fun d o e => Heap.get?_push_of_some _ (Heap.get?_push_of_some _ (Heap.get?_push_of_some _ e))
 have out : ∀ d o, z.heap.get? d = some o -> d ≠ hA.objs.size /\ d ≠ hB.objs.size := fun d o e => by
  have := Heap.lt_size e
  exact ⟨(fun q => by rw [q, zA] at this; exact absurd this (Nat.not_lt.mpr (Nat.le_succ _))), (fun q => by rw [q, zB] at this; exact absurd this (Nat.not_lt.mpr (Nat.le_add_right _ _)))⟩
 have nAB : hA.objs.size ≠ hB.objs.size := by rw [zA, zB]; exact Nat.ne_of_lt (Nat.lt_succ_self _)
 have nTB : z.heap.objs.size ≠ hB.objs.size := by rw [zB]; exact Nat.ne_of_lt (Nat.lt_add_of_pos_right (by decide))
 have nTA : z.heap.objs.size ≠ hA.objs.size := by rw [zA]; exact Nat.ne_of_lt (Nat.lt_succ_self _)
 refine wpAny_pure ⟨plainId_quiet F.plain_min_loop _, minL_one (I := hA.objs.size) (T := z.heap.objs.size) (S := hB.objs.size) (a := a) (b := b) (r := r) (A := A) hh ?hi ?hT (Heap.get?_push_size _ rfl) nAB nTB nTA (fun h' tk k E Q hq => ?_) fun h' tk k => ?_⟩
 case hi => exact ⟨_, Heap.get?_push_of_some _ (Heap.get?_push_size _ rfl), rfl, rfl⟩
 case hT => exact (hT.push _).push _
 ·exact cmp h' tk (fun d o e => k d o (out d o e).1 (out d o e).2 (kC d o e)) E Q hq
 ·exact q h' tk fun d o e => k d o (out d o e).1 (out d o e).2 (kC d o e)
end
end Nx
namespace L2
open PySem PySem.Spec PyProof.Rows
noncomputable def ltN (j : Int) (u : List Int) (i : Int) (t : List Int) : Bool := if j = i then HT.lexLt u t else decide (j < i)
theorem lexLt_self : ∀ (t : List Int), HT.lexLt t t = false
 | [] => rfl
 | x :: t => by rw [HT.lexLt_cons, if_pos rfl]; exact lexLt_self t
section
variable {X : Cx}
theorem call_minN (hc : X.calm = true) (hu : X.A.units + 3 < cLine) : CallR X (.builtin "min") (fun xs H Q => ∃ (a b p q : Addr) (i j : Int) (t u : List Int), xs = [.ref a, .ref b] /\ H a = some (.tup [.int i, .ref p]) /\ H b = some (.tup [.int j, .ref q]) /\ H p = some (.tup (t.map V.int)) /\ H q = some (.tup (u.map V.int)) /\ Q (.ref (if ltN j u i t = true then b else a)) H) := by
 intro pins s σ H xs us Q I r h
 refine gz9 fun _ bk0 => ?_
 obtain ⟨a, b, p, q, i, j, t, u, rfl, ha, hb, hp, hq, k⟩ := h
 obtain ⟨v1, v2, rfl, r1, r2⟩ := vals2 r
 refine bk0 ?_
 cases r1
 cases r2
 refine gz9 fun _ bk0 => ?_
 obtain ⟨ia, ra, pa, _⟩ := I.tuple (SqT.of ha)
 obtain ⟨ib, rb, pb, _⟩ := I.tuple (SqT.of hb)
 obtain ⟨x1, x2, rfl, ⟨t1, rfl⟩, e2⟩ := vals2 ra
 obtain ⟨y1, y2, rfl, ⟨t2, rfl⟩, e4⟩ := vals2 rb
 refine bk0 ?_
 cases e2
 cases e4
 have tp := I.tupI hp
 have tq := I.tupI hq
 refine Nx.min_two (r := ltN j u i t) (I.ok.hd hc) (fun h' tk kk E Q hQ => ?_) fun h' tk kk => ?_
 ·have pa' : IsTup h' a #[.int i t1, .ref p] := by
   obtain ⟨o, e, z⟩ := pa
   exact ⟨o, kk _ _ e, z⟩
  have pb' : IsTup h' b #[.int j t2, .ref q] := by
   obtain ⟨o, e, z⟩ := pb
   exact ⟨o, kk _ _ e, z⟩
  have tp' : Sx.TupI h' p t := by
   refine gz9 fun _ bk0 => ?_
   obtain ⟨o, its, n, e, z⟩ := tp
   refine bk0 ?_
   exact ⟨o, its, n, kk _ _ e, z⟩
  have tq' : Sx.TupI h' q u := by
   refine gz9 fun _ bk0 => ?_
   obtain ⟨o, its, n, e, z⟩ := tq
   refine bk0 ?_
   exact ⟨o, its, n, kk _ _ e, z⟩
  refine Nx.lt_tupG (A := X.A.in1) (s := { s with heap := h', toks := tk }) pb' pa' ?_ (by show X.A.units + 1 < cLine; (first | lia | omega)) hQ
  show Nx.LtL X.A.in1 _ [.int j t2, .ref q] [.int i t1, .ref p] _
  unfold ltN
  by_cases c : j = i
  ·subst c
   rw [if_pos rfl]
   refine .eq ?_ ?_
   ·have : SeqAt.EqAt X.A.in1.in1 { s with heap := h', toks := tk } (.int j t2) (.int j t1) (j == j) := SeqAt.EqAt.int_int _ _ _ _
    rwa [beq_self_eq_true] at this
   ·have eq := Sx.eqAt_tups (A := X.A.in1.in1) (s := { s with heap := h', toks := tk }) tq' tp' (by show X.A.units + 2 < cLine; (first | lia | omega))
    by_cases d : u = t
    ·subst d
     rw [lexLt_self]
     rw [decide_eq_true rfl] at eq
     exact .eq eq .nn
    ·rw [decide_eq_false d] at eq
     refine .lt eq fun prog w E Q hQ => ?_
     refine gz9 fun _ bk0 => ?_
     obtain ⟨o, its, n, e1, e2, e3, e4⟩ := tq'
     obtain ⟨o', its', n', f1, f2, f3, f4⟩ := tp'
     refine bk0 ?_
     exact HT.lt_tupInts (A := X.A.in1.in1) (s := { s with heap := h', toks := tk }) ⟨o, e1, e2, n, e3⟩ ⟨o', f1, f2, n', f3⟩ e4 f4 (by show X.A.units + 2 < cLine; (first | lia | omega)) hQ
  ·rw [if_neg c]
   refine .lt ?_ fun prog w E Q hQ => HT.rcLt_int _ _ _ _ _ _ prog w E Q hQ
   have : SeqAt.EqAt X.A.in1.in1 { s with heap := h', toks := tk } (.int j t2) (.int i t1) (j == i) := SeqAt.EqAt.int_int _ _ _ _
   rwa [show (j == i) = false from beq_eq_false_iff_ne.mpr c] at this
 ·refine ⟨.ref (if ltN j u i t = true then b else a), H, I.kept kk, ?_, k⟩
  cases ltN j u i t with
  | true => rfl
  | false => rfl
end
end L2
namespace Dr
open L2
noncomputable def rowK (N : Int -> Int) (t : Mt.Tri) : Option (List Int × List Int) :=
 if N t.1 = N t.2.1 then none else if N t.1 < N t.2.1 then some ([N t.1, N t.2.1], [-t.2.2, t.1, t.2.1]) else some ([N t.2.1, N t.1], [-t.2.2, t.2.1, t.1])
structure IsMin (N : Int -> Int) (T : List Mt.Tri) (k row : List Int) : Prop where
 has : ∃ t ∈ T, rowK N t = some (k, row)
 min : ∀ t ∈ T, ∀ w, rowK N t = some (k, w) -> HT.lexLt w row = false
theorem IsMin.uniq {N : Int -> Int} {T : List Mt.Tri} {k row row' : List Int} (h : IsMin N T k row) (h' : IsMin N T k row') : row = row' := by
 refine gz9 fun _ bk0 => ?_
 obtain ⟨t, ht, e⟩ := h.has
 obtain ⟨t', ht', e'⟩ := h'.has
 refine bk0 ?_
 exact Sx.lex_tot _ _ (h'.min t ht _ e) (h.min t' ht' _ e')
theorem IsMin.other {N : Int -> Int} {T : List Mt.Tri} {t : Mt.Tri} {k row : List Int} (h : IsMin N T k row) (n : ∀ w, rowK N t ≠ some (k, w)) : IsMin N (T ++ [t]) k row := by
 obtain ⟨u, hu, e⟩ := h.has
 refine ⟨⟨u, List.mem_append_left _ hu, e⟩, fun v hv w ew => ?_⟩
 rcases List.mem_append.mp hv with hv | hv
 ·exact h.min v hv w ew
 ·rw [List.mem_singleton.mp hv] at ew; exact absurd ew (n w)
theorem IsMin.first {N : Int -> Int} {T : List Mt.Tri} {t : Mt.Tri} {k w : List Int} (e : rowK N t = some (k, w)) (n : ∀ u ∈ T, ∀ v, rowK N u ≠ some (k, v)) : IsMin N (T ++ [t]) k w := by
 refine ⟨⟨t, List.mem_append_right _ (.head _), e⟩, fun u hu v ev => ?_⟩
 rcases List.mem_append.mp hu with hu | hu
 ·exact absurd ev (n u hu v)
 ·rw [List.mem_singleton.mp hu, e] at ev
  cases ev
  exact Sx.lex_irr _
theorem IsMin.less {N : Int -> Int} {T : List Mt.Tri} {t : Mt.Tri} {k row w : List Int} (h : IsMin N T k row) (e : rowK N t = some (k, w)) (l : HT.lexLt w row = true) : IsMin N (T ++ [t]) k w := by
 refine ⟨⟨t, List.mem_append_right _ (.head _), e⟩, fun u hu v ev => ?_⟩
 rcases List.mem_append.mp hu with hu | hu
 ·cases c : HT.lexLt v w with
  | false => rfl
  | true =>
   have := Sx.lex_trans _ _ _ c l
   rw [h.min u hu v ev] at this
   exact nomatch this
 ·rw [List.mem_singleton.mp hu, e] at ev
  cases ev
  exact Sx.lex_irr _
theorem IsMin.stay {N : Int -> Int} {T : List Mt.Tri} {t : Mt.Tri} {k row w : List Int} (h : IsMin N T k row) (e : rowK N t = some (k, w)) (l : HT.lexLt w row = false) : IsMin N (T ++ [t]) k row := by
 obtain ⟨u, hu, eu⟩ := h.has
 refine ⟨⟨u, List.mem_append_left _ hu, eu⟩, fun v hv x ex => ?_⟩
 rcases List.mem_append.mp hv with hv | hv
 ·exact h.min v hv x ex
 ·rw [List.mem_singleton.mp hv, e] at ex
  cases ex
  exact l
structure Lst (val : V -> List Int -> Prop) (N : Int -> Int) (T : List Mt.Tri) (kvs : List (List Key × V)) : Prop where
 keys : ∃ ks : List (List Int), kvs.map (·.1) = ks.map (·.map Sum.inl) /\ ks.Nodup
 none : ∀ k : List Int, valV kvs (k.map Sum.inl) = none -> ∀ t ∈ T, ∀ w, rowK N t ≠ some (k, w)
 some : ∀ (k : List Int) (v : V), valV kvs (k.map Sum.inl) = some v -> ∃ row, val v row /\ IsMin N T k row
theorem Lst.nil {val : V -> List Int -> Prop} {N : Int -> Int} : Lst val N [] [] := ⟨⟨[], rfl, List.nodup_nil⟩, fun _ _ t ht => (nomatch ht), fun _ _ h => (nomatch h)⟩
theorem Lst.imp {val val' : V -> List Int -> Prop} {N : Int -> Int} {T : List Mt.Tri} {kvs : List (List Key × V)} (h : Lst val N T kvs) (f : ∀ v r, val v r -> val' v r) : Lst val' N T kvs :=
 ⟨h.keys, h.none, fun k v e => by obtain ⟨row, a, b⟩ := h.some k v e; exact ⟨row, f v row a, b⟩⟩
theorem inl2 {a b : List Int} (h : a.map (Sum.inl : Int -> Key) = b.map Sum.inl) : a = b := by
 refine (List.map_inj_right fun x y e => ?_).mp h
 injection e
theorem Lst.skip {val : V -> List Int -> Prop} {N : Int -> Int} {T : List Mt.Tri} {t : Mt.Tri} {kvs : List (List Key × V)} (h : Lst val N T kvs) (e : rowK N t = Option.none) : Lst val N (T ++ [t]) kvs := by
 refine ⟨h.keys, fun k ek u hu w => ?_, fun k v ev => ?_⟩
 ·rcases List.mem_append.mp hu with hu | hu
  ·exact h.none k ek u hu w
  ·rw [List.mem_singleton.mp hu, e]; exact fun z => nomatch z
 ·obtain ⟨row, a, b⟩ := h.some k v ev
  exact ⟨row, a, b.other fun w z => by rw [e] at z; exact nomatch z⟩
theorem Lst.put {val : V -> List Int -> Prop} {N : Int -> Int} {T : List Mt.Tri} {t : Mt.Tri} {kvs : List (List Key × V)} {k w row : List Int} {v : V} (h : Lst val N T kvs) (e : rowK N t = Option.some (k, w)) (hv : val v row) (hm : IsMin N (T ++ [t]) k row) : Lst val N (T ++ [t]) (putK kvs (k.map Sum.inl) v) := by
 refine ⟨?_, fun j ej u hu x => ?_, fun j y ey => ?_⟩
 ·obtain ⟨ks, ek, nd⟩ := h.keys
  unfold putK
  by_cases c : (kvs.any fun kv => decide (kv.1 = k.map Sum.inl)) = true
  ·refine ⟨ks, ?_, nd⟩
   rw [if_pos c, List.map_map, <- ek]
   refine List.map_congr_left fun kv _ => ?_
   show (if kv.1 = k.map Sum.inl then (kv.1, v) else kv).1 = kv.1
   split <;> rfl
  ·refine ⟨ks ++ [k], ?_, List.nodup_append.mpr ⟨nd, by simp, fun a ha b hb q => ?_⟩⟩
   ·rw [if_neg c, List.map_append, List.map_append, ek]
    rfl
   ·rw [List.mem_singleton.mp hb] at q
    subst q
    have : a.map Sum.inl ∈ kvs.map (·.1) := by rw [ek]; exact List.mem_map.mpr ⟨a, ha, rfl⟩
    obtain ⟨kv, hkv, e'⟩ := List.mem_map.mp this
    exact c (List.any_eq_true.mpr ⟨kv, hkv, decide_eq_true e'⟩)
 ·rw [valV_put] at ej
  by_cases c : j = k
  ·subst c; rw [if_pos rfl] at ej; exact nomatch ej
  ·rw [if_neg fun z => c (inl2 z)] at ej
   rcases List.mem_append.mp hu with hu | hu
   ·exact h.none j ej u hu x
   ·rw [List.mem_singleton.mp hu, e]
    intro z
    cases z
    exact c rfl
 ·rw [valV_put] at ey
  by_cases c : j = k
  ·subst c
   rw [if_pos rfl] at ey
   cases ey
   exact ⟨row, hv, hm⟩
  ·rw [if_neg fun z => c (inl2 z)] at ey
   obtain ⟨r, a, b⟩ := h.some j y ey
   exact ⟨r, a, b.other fun x z => c (by rw [e] at z; cases z; rfl)⟩
theorem Lst.has {val : V -> List Int -> Prop} {N : Int -> Int} {T : List Mt.Tri} {kvs : List (List Key × V)} (h : Lst val N T kvs) (k : List Int) : (valV kvs (k.map Sum.inl)).isSome = true ↔ ∃ t ∈ T, ∃ w, rowK N t = Option.some (k, w) := by
 cases e : valV kvs (k.map Sum.inl) with
 | none => exact ⟨fun z => (nomatch z), fun z => by obtain ⟨t, ht, w, q⟩ := z; exact absurd q (h.none k e t ht w)⟩
 | some v =>
  refine gz9 fun _ bk0 => ?_
  obtain ⟨row, _, b⟩ := h.some k v e
  obtain ⟨t, ht, q⟩ := b.has
  refine bk0 ?_
  exact ⟨fun _ => ⟨t, ht, row, q⟩, fun _ => rfl⟩
end Dr
namespace L2
open PySem PySem.Spec PyProof.Rows
theorem ps_no {X : Cx} {st : Stmt} : PS X st (fun _ _ _ => False) := fun _ _ _ _ _ _ h => h.elim
end L2
namespace K29
open PySem L2 PyProof.Rows
noncomputable def top (i : Nat) : Stmt := PySem.Challenge.pw_pairsheath_k29_whole_choices_laid_open.main.body.getD i (.Pass ⟨0, 0, 0, 0⟩)
noncomputable abbrev sSize : Stmt := top 7
noncomputable abbrev sEnds : Stmt := top 8
noncomputable abbrev sOrd : Stmt := top 9
noncomputable abbrev sWts : Stmt := top 10
noncomputable abbrev sNb : Stmt := top 11
noncomputable abbrev sInit : Stmt := inClass (top 12) 0
noncomputable abbrev sMSize : Stmt := inClass (top 12) 1
noncomputable abbrev sTies : Stmt := inClass (top 12) 2
noncomputable abbrev sWeight : Stmt := inClass (top 12) 3
noncomputable abbrev sTied : Stmt := inClass (top 12) 4
noncomputable abbrev sNums : Stmt := top 14
noncomputable abbrev sBtw : Stmt := top 15
noncomputable abbrev sDrw : Stmt := top 16
noncomputable abbrev sAround : Stmt := top 17
noncomputable abbrev sPart : Stmt := top 19
noncomputable abbrev sIs : Stmt := top 20
noncomputable abbrev sWorth : Stmt := top 21
noncomputable abbrev sLeft : Stmt := top 22
noncomputable abbrev sCell : Stmt := top 24
noncomputable abbrev sTie : Stmt := top 25
noncomputable abbrev sOrder : Stmt := top 26
noncomputable abbrev sDrawn : Stmt := top 27
noncomputable abbrev sLw : Stmt := top 28
noncomputable abbrev sLends : Stmt := top 29
noncomputable abbrev sMore : Stmt := top 30
noncomputable abbrev sListed : Stmt := top 31
noncomputable abbrev sCut : Stmt := top 32
noncomputable abbrev sChosen : Stmt := top 33
noncomputable abbrev sLis : Stmt := top 34
noncomputable abbrev sLaw : Stmt := top 35
section
variable {P : Program} {w : World} {K : W.Frag} {mg : Str -> Option Value} {base : Heap}
theorem Same.new {H : Hp} {p : Addr} {o : HO} (h : H p = none) : Same H (upd H p o) := fun b u e => by
 rw [upd_ne (ne_of_none e h)]
 exact e
noncomputable def spSize : Sp := fun vs H Q _ => ∃ m : Int, vs = [.int m] /\ ¬ (m < 0 \/ 24 < m) /\ Q .non H
theorem scSize : FnScope ["many"] ["many"] (defScope sSize) := ⟨rfl, rfl, rfl, by decide +kernel, rfl, by decide +kernel, by decide +kernel⟩
theorem ok_size {f : Addr} {fd : FuncData} {u24 : Value} (F : Fun K "check_size" "check_size" sSize f fd) (g24 : mg "MOST_POINTS" = some u24) (r24 : RelV (.int 24) u24) : FnOk P w K mg base CX0 1 f fd ["many"] spSize := by
 refine F.ok scSize (fun vs H Q E h => ?_) (fun cdv A outer s H vs Q E hr h => ?_)
 ·obtain ⟨m, rfl, _⟩ := h
  rfl
 ·obtain ⟨m, rfl, h1, h2⟩ := h
  refine ⟨_, pss_one (ps_if (pw_or (pt_cmpR op_lt (pv 0) pe_int (nomark _)) (pw_or1 (pt_cmpR op_gt (pv 0) (pe_glob (by rfl) g24 r24) (nomark _)))).pt (pss_one ps_no) pss_nil), ?_⟩
  refine ⟨_, rfl, _, _, rfl, rfl, _, rfl, ?_⟩
  refine ite2 (fun c => (h1 (.inl (of_decide_eq_true c))).elim) (fun c => ?_)
  refine ⟨_, rfl, _, _, rfl, rfl, _, rfl, ?_⟩
  exact ite2 (fun d => h1 (.inr (of_decide_eq_true d))) (fun d => h2)
noncomputable def spOrd : Sp := fun vs H Q _ => ∃ a b : Int, vs = [.int a, .int b] /\ ∀ p, H p = none -> Q (.ref p) (upd H p (.tup [.int (Mt.lo a b), .int (Mt.hi a b)]))
theorem scOrd : FnScope ["a", "b"] ["a", "b"] (defScope sOrd) := ⟨rfl, rfl, rfl, by decide +kernel, rfl, by decide +kernel, by decide +kernel⟩
theorem ok_ord {f : Addr} {fd : FuncData} (F : Fun K "ordered" "ordered" sOrd f fd) (gmin : mg "min" = none) (gmax : mg "max" = none) : FnOk P w K mg base CX0 1 f fd ["a", "b"] spOrd := by
 refine F.ok scOrd (fun vs H Q E h => ?_) (fun cdv A outer s H vs Q E hr h => ?_)
 ·obtain ⟨a, b, rfl, _⟩ := h
  rfl
 ·obtain ⟨a, b, rfl, h⟩ := h
  refine ⟨_, pss_one (ps_ret (pe_tup (pa_cons (pe_callB (call_min2 rfl) (by rfl) gmin boot_min (pa_cons (pv 0) (pa_cons (pv 1) pa_nil)))
   (pa_cons (pe_callB (call_max2 rfl) (by rfl) gmax boot_max (pa_cons (pv 0) (pa_cons (pv 1) pa_nil))) pa_nil)))), ?_⟩
  exact ⟨_, rfl, _, rfl, a, b, rfl, _, rfl, _, rfl, a, b, rfl, (by show 2 <= sizeLine; decide), fun p hp => h p hp⟩
noncomputable def spEnds : Sp := fun vs H Q _ => ∃ m a b : Int, vs = [.int m, .int a, .int b] /\ ¬ Mt.bad m a b /\ ∀ H', Same H H' -> Q .non H'
theorem scEnds : FnScope ["many", "a", "b", "end"] ["many", "a", "b"] (defScope sEnds) := ⟨rfl, rfl, rfl, by decide +kernel, rfl, by decide +kernel, by decide +kernel⟩
theorem ok_ends {f : Addr} {fd : FuncData} (F : Fun K "check_ends" "check_ends" sEnds f fd) : FnOk P w K mg base CX0 1 f fd ["many", "a", "b"] spEnds := by
 refine F.ok scEnds (fun vs H Q E h => ?_) (fun cdv A outer s H vs Q E hr h => ?_)
 ·obtain ⟨m, a, b, rfl, _⟩ := h
  rfl
 ·obtain ⟨m, a, b, rfl, h1, h2⟩ := h
  refine ⟨_, pss_cons (ps_for PassesOwn.never rfl (pi_tup (pe_tup (pa_cons (pv 1) (pa_cons (pv 2) pa_nil)))) (pg_name (i := 3) scEnds.nd rfl (Or.inl rfl))
    (pss_one (ps_if (pw_or (pt_cmpR op_lt (pv 3) pe_int (nomark _)) (pw_or1 (pt_cmpR op_ge (pv 3) (pv 0) (nomark _)))).pt (pss_one ps_no) pss_nil)))
   (pss_one (ps_if (pt_cmpR op_eq (pv 1) (pv 2) (nomark _)) (pss_one ps_no) pss_nil)), ?_⟩
  refine ⟨_, rfl, _, rfl, (by show 2 <= sizeLine; decide), fun t ht => ⟨t, rfl, ⟨_, SqT.of upd_same⟩, for_tup (xs := [V.int a, V.int b])
   (fun i σ H2 => ∃ e, σ = [some (.int m), some (.int a), some (.int b), e] /\ Same H H2 /\ H2 t = some (.tup [.int a, .int b]) /\ (0 < i -> ¬ (a < 0 \/ m <= a)) /\ (1 < i -> ¬ (b < 0 \/ m <= b)))
   ⟨none, rfl, Same.new ht, upd_same, fun z => absurd z (by decide), fun z => absurd z (by decide)⟩ (fun i σ H2 _ ⟨e, _, _, hh, _⟩ => SqT.of hh) ?_ ?_⟩⟩
  ·rintro i x σ H2 hi ⟨e, rfl, sm, hh, q1, q2⟩
   obtain ⟨v, rfl, hv⟩ : ∃ v : Int, x = .int v /\ ((i = 0 /\ v = a) \/ (i = 1 /\ v = b)) := by
    match i, hi with
    | 0, hi => exact ⟨a, (Option.some.inj hi).symm, .inl ⟨rfl, rfl⟩⟩
    | 1, hi => exact ⟨b, (Option.some.inj hi).symm, .inr ⟨rfl, rfl⟩⟩
    | n + 2, hi => cases hi
   have bd : v < 0 \/ m <= v -> Mt.bad m a b := by
    unfold Mt.bad
    rcases hv with ⟨_, rfl⟩ | ⟨_, rfl⟩ <;> (first | lia | omega)
   refine ⟨_, rfl, _, _, rfl, rfl, _, rfl, ?_⟩
   refine ite2 (fun c => (h1 (bd (.inl (of_decide_eq_true c)))).elim) (fun c => ?_)
   refine ⟨_, rfl, _, rfl, _, _, rfl, rfl, _, rfl, ?_⟩
   refine ite2 (fun d => h1 (bd (.inr (of_decide_eq_true d)))) (fun d => ?_)
   simp only [decide_eq_true_eq] at c d
   refine ⟨_, rfl, sm, hh, fun z => ?_, fun z => ?_⟩
   ·rcases hv with ⟨rfl, rfl⟩ | ⟨rfl, rfl⟩
    ·(first | lia | omega)
    ·exact q1 (by decide)
   ·rcases hv with ⟨rfl, rfl⟩ | ⟨rfl, rfl⟩
    ·exact absurd z (by decide)
    ·(first | lia | omega)
  ·rintro σ H2 ⟨e, rfl, sm, hh, q1, q2⟩
   have r1 := q1 (by show 0 < 2; decide)
   have r2 := q2 (by show 1 < 2; decide)
   refine ⟨_, rfl, _, rfl, rfl, _, rfl, ?_⟩
   refine ite2 (fun c => h1 ?_) (fun c => h2 H2 sm)
   have e : V.int a = V.int b := of_decide_eq_true c
   injection e with e
   unfold Mt.bad; (first | lia | omega)
end
end K29
namespace K29
open PySem L2 PyProof.Rows
section
variable {P : Program} {w : World} {K : W.Frag} {mg : Str -> Option Value} {base : Heap}
structure RowsAt (K : W.Frag) (H : Hp) (p : Addr) (rs : List Addr) (T : List Mt.Tri) : Prop where
 ls : SqL K H p (rs.map V.ref)
 tp : TupsH H rs (T.map Mt.tri)
theorem TupsH.same {H H' : Hp} (s : Same H H') : ∀ {rs : List Addr} {ts : List (List Int)}, TupsH H rs ts -> TupsH H' rs ts
 | _, _, .nil => .nil
 | _, _, .cons h t => .cons ⟨s _ _ h.1, h.2⟩ (TupsH.same s t)
theorem RowsAt.same {H H' : Hp} {p : Addr} {rs : List Addr} {T : List Mt.Tri} (s : Same H H') (h : RowsAt K H p rs T) : RowsAt K H' p rs T := ⟨s.seq h.ls, TupsH.same s h.tp⟩
theorem RowsAt.len {H : Hp} {p : Addr} {rs : List Addr} {T : List Mt.Tri} (h : RowsAt K H p rs T) : rs.length = T.length := by
 have := Paired.length h.tp
 rw [List.length_map] at this
 exact this
theorem RowsAt.at_ {H : Hp} {p : Addr} {rs : List Addr} {T : List Mt.Tri} (h : RowsAt K H p rs T) {i : Nat} {x : V} (e : (rs.map V.ref)[i]? = some x) :
  ∃ r t, x = .ref r /\ T[i]? = some t /\ H r = some (.tup [.int t.1, .int t.2.1, .int t.2.2]) := by
 rw [List.getElem?_map] at e
 cases er : rs[i]? with
 | none => rw [er] at e; cases e
 | some r =>
  rw [er] at e
  refine gz9 fun _ bk0 => ?_
  obtain ⟨u, eu, hu, _⟩ := Sx.pair_at (i := i) (a := r) h.tp er
  refine bk0 ?_
  rw [List.getElem?_map] at eu
  cases et : T[i]? with
  | none => rw [et] at eu; cases eu
  | some t =>
   rw [et] at eu
   cases eu
   exact ⟨r, t, (Option.some.inj e).symm, rfl, hu⟩
noncomputable def kk (t : Mt.Tri) : List Key := (Mt.key t).map Sum.inl
noncomputable def wd (T : List Mt.Tri) : List (List Key × V) := T.map fun t => (kk t, V.int t.2.2)
theorem inl_inj : ∀ {a b : List Int}, a.map (Sum.inl : Int -> Key) = b.map Sum.inl -> a = b
 | [], [], _ => rfl
 | [], _ :: _, e => by simp at e
 | _ :: _, [], e => by simp at e
 | x :: xs, y :: ys, e => by
  rw [List.map_cons, List.map_cons] at e
  injection e with e1 e2
  injection e1 with e1
  rw [e1, inl_inj e2]
theorem wd_some (T : List Mt.Tri) (t : Mt.Tri) : (valV (wd T) (kk t)).isSome = (T.map Mt.key).any fun k => decide (k = Mt.key t) := by
 rw [<- valV_any]
 induction T with
 | nil => rfl
 | cons u T ih =>
  show (decide (kk u = kk t) || (wd T).any _) = (decide (Mt.key u = Mt.key t) || (T.map Mt.key).any _)
  rw [ih]
  congr 1
  rw [Bool.eq_iff_iff, decide_eq_true_iff, decide_eq_true_iff]
  exact ⟨fun e => inl_inj e, fun e => by unfold kk; rw [e]⟩
theorem wd_snoc (T : List Mt.Tri) (t : Mt.Tri) (h : (valV (wd T) (kk t)) = none) : putK (wd T) (kk t) (.int t.2.2) = wd (T ++ [t]) := by
 rw [putK_new _ h]
 unfold wd
 rw [List.map_append]
 rfl
noncomputable def spWts (K : W.Frag) : Sp := fun vs H Q _ => ∃ (m : Int) (p : Addr) (rs : List Addr) (T : List Mt.Tri), vs = [.int m, .ref p] /\ RowsAt K H p rs T /\ T.length < 1000 /\ Mt.scan m T [] = .good /\ ∀ d H', H d = none -> Same H H' -> H' d = some (.dT (wd T)) -> Q (.ref d) H'
theorem scWts : FnScope ["many", "ties", "weights", "a", "b", "weight", "ends"] ["many", "ties"] (defScope sWts) := ⟨rfl, rfl, rfl, by decide +kernel, rfl, by decide +kernel, by decide +kernel⟩
theorem ok_wts {f fE fO : Addr} {fd fdE fdO : FuncData} (F : Fun K "weights_of" "weights_of" sWts f fd)
  (GE : FnOk P w K mg base CX0 1 fE fdE ["many", "a", "b"] spEnds) (mE : mg "check_ends" = some (.ref fE)) (kE : PySem.W.keepIn K (.ref fE) = true) (bE : Binds K fdE ["many", "a", "b"] [])
  (GO : FnOk P w K mg base CX0 1 fO fdO ["a", "b"] spOrd) (mO : mg "ordered" = some (.ref fO)) (kO : PySem.W.keepIn K (.ref fO) = true) (bO : Binds K fdO ["a", "b"] []) :
  FnOk P w K mg base CX0 2 f fd ["many", "ties"] (spWts K) := by
 refine F.ok scWts (fun vs H Q E h => ?_) (fun cdv A outer s H vs Q E hr h => ?_)
 ·obtain ⟨m, p, rs, T, rfl, _⟩ := h
  rfl
 ·obtain ⟨m, p, rs, T, rfl, R, hl, hgood, hg⟩ := h
  have hu := hu_of hr
  refine ⟨_, pss_cons (ps_set (i := 2) scWts.nd rfl (Or.inl rfl) pe_dnewT)
   (pss_cons (ps_for PassesOwn.never rfl (pi_list (pv 1)) (pg_tup rfl (pgs_cons (pg_name (i := 3) scWts.nd rfl (Or.inl rfl)) (pgs_cons (pg_name (i := 4) scWts.nd rfl (Or.inl rfl)) (pgs_cons (pg_name (i := 5) scWts.nd rfl (Or.inl rfl)) pgs_nil))))
    (pss_cons (ps_expr (pe_call GE hr rfl mE kE bE .nil pass0 (pa_cons (pv 0) (pa_cons (pv 3) (pa_cons (pv 4) pa_nil)))))
    (pss_cons (ps_set (i := 6) scWts.nd rfl (Or.inl rfl) (pe_call GO hr rfl mO kO bO .nil pass0 (pa_cons (pv 3) (pa_cons (pv 4) pa_nil))))
    (pss_cons (ps_if (pt_cmp (pc_din hu (pv 6) (pv 2))) (pss_one ps_no) pss_nil)
    (pss_one (ps_dput hu (pv 2) (pv 6) (pv 5) rfl))))))
   (pss_one (ps_ret (pv 2)))), ?_⟩
  intro d hd
  have s0 : Same H (upd H d (.dT [])) := Same.new hd
  refine ⟨_, rfl, p, rfl, ⟨_, (R.same s0).ls⟩, for_list (K := K) (a := p) (xs := rs.map V.ref)
   (fun i σ H2 => ∃ e3 e4 e5 e6, σ = [some (.int m), some (.ref p), some (.ref d), e3, e4, e5, e6] /\ Same H H2 /\ H2 d = some (.dT (wd (T.take i))) /\ Mt.scan m T [] = Mt.scan m (T.drop i) ((T.take i).map Mt.key))
   ⟨none, none, none, none, rfl, s0, upd_same, rfl⟩ (fun i σ H2 _ ⟨_, _, _, _, _, s2, _⟩ => (R.same s2).ls) ?_ ?_⟩
  ·rintro i x σ H2 hi ⟨e3, e4, e5, e6, rfl, s2, hdi, hsc⟩
   refine gz9 fun _ bk0 => ?_
   obtain ⟨r, t, rfl, et, ht⟩ := (R.same s2).at_ hi
   refine bk0 ?_
   have hil : i < T.length := (List.getElem?_eq_some_iff.mp et).1
   have hdr : T.drop i = t :: T.drop (i + 1) := by
    rw [List.drop_eq_getElem_cons hil]
    congr 1
    exact (List.getElem?_eq_some_iff.mp et).2
   have htk : T.take (i + 1) = T.take i ++ [t] := by
    rw [List.take_succ, et]
    rfl
   rw [hdr, Mt.scan_cons] at hsc
   refine ⟨r, _, rfl, SqT.of ht, rfl, _, _, rfl, _, _, rfl, _, _, rfl, rfl, ?_⟩
   rw [hgood] at hsc
   by_cases nb : Mt.bad m t.1 t.2.1
   ·rw [if_pos nb] at hsc
    cases hsc
   ·rw [if_neg nb] at hsc
    refine ⟨_, rfl, _, rfl, _, rfl, m, t.1, t.2.1, rfl, nb, fun H3 s3 => ?_⟩
    refine ⟨_, rfl, _, rfl, t.1, t.2.1, rfl, fun q hq => ?_⟩
    have s4 : Same H3 (upd H3 q (.tup [.int (Mt.lo t.1 t.2.1), .int (Mt.hi t.1 t.2.1)])) := Same.new hq
    have hd4 := s4 d _ (s3 d _ hdi)
    have hq4 : upd H3 q (.tup [.int (Mt.lo t.1 t.2.1), .int (Mt.hi t.1 t.2.1)]) q = some (.tup ((kk t).map kV)) := upd_same
    refine ⟨_, rfl, _, rfl, d, _, rfl, DGet.t (k := kk t) hd4 hq4, _, rfl, ?_⟩
    refine ite2 (fun c => ?_) (fun c => ?_)
    ·rw [wd_some] at c
     rw [if_pos c] at hsc
     cases hsc
    ·have cn : valV (wd (T.take i)) (kk t) = none := by
      cases q : valV (wd (T.take i)) (kk t) with
      | none => rfl
      | some v => rw [q] at c; exact absurd rfl c
     rw [wd_some] at c
     rw [if_neg c] at hsc
     refine ⟨_, rfl, _, rfl, _, rfl, d, _, rfl, DPut.t (k := kk t) hd4 hq4 (small1000 ?_), ?_⟩
     ·unfold wd; rw [List.length_map, List.length_take]; (first | lia | omega)
     ·refine ⟨_, _, _, _, rfl, fun b o e => ?_, ?_, ?_⟩
      ·rw [upd_ne (ne_of_none e hd)]
       exact s4 b o (s3 b o (s2 b o e))
      ·rw [upd_same, wd_snoc _ _ cn, htk]
      ·rw [hgood, hsc, htk, List.map_append]; rfl
  ·rintro σ H2 ⟨e3, e4, e5, e6, rfl, s2, hdi, hsc⟩
   rw [List.length_map, R.len] at hdi hsc
   rw [List.take_length] at hdi hsc
   rw [List.drop_length] at hsc
   exact ⟨_, rfl, hg d H2 hd s2 hdi⟩
end
end K29
namespace K29
open PySem L2 PyProof.Rows
section
variable {P : Program} {w : World} {K : W.Frag} {mg : Str -> Option Value} {base : Heap}
theorem relabel_no {scope : Scope} {env : Env} (h : ∀ y ∈ scope.names, y.2 ≠ .cell /\ y.2 ≠ .free) (x : Str) : ¬ ((relabel scope env).names.lookup x = some .cell \/ (relabel scope env).names.lookup x = some .free) := by
 have key : ∀ y ∈ (relabel scope env).names, y.2 ≠ .cell /\ y.2 ≠ .free := fun y hy => by
  refine gz9 fun _ bk0 => ?_
  obtain ⟨z, hz, e⟩ := List.mem_map.mp hy
  have h' := h z hz
  obtain ⟨n, k⟩ := z
  refine bk0 ?_
  have hk : (k == NameKind.free) = false := beq_eq_false_iff_ne.mpr h'.2
  simp only [hk, Bool.false_and, Bool.false_eq_true, if_false] at e
  subst e
  exact h'
 rintro (e | e)
 ·exact (key _ (PySem.mem_of_lookup e)).1 rfl
 ·exact (key _ (PySem.mem_of_lookup e)).2 rfl
theorem caps0 {X : Cx} {scope : Scope} {own : List Str} (h1 : closureFor scope X.env = pure []) (h2 : scope.kind = .function) (h3 : ∀ y ∈ scope.names, y.2 ≠ .cell /\ y.2 ≠ .free) (h4 : ∀ y ∈ scope.names, y.2 = .local -> scope.names.lookup y.1 = some .local) : Caps X scope [] own [] [] :=
 ⟨h1, fun x c e => (by cases e), h2, fun y hy => (h3 y hy).1, h4, fun x hx => absurd hx (relabel_no h3 x), rfl, fun i x e => (by cases e)⟩
theorem ix_inj {α : Type} {l : List α} {i j : Nat} {x : α} (h : l.Nodup) (hi : l[i]? = some x) (hj : l[j]? = some x) : i = j := by
 have h : l.Pairwise (· ≠ ·) := h
 rw [List.pairwise_iff_getElem] at h
 obtain ⟨a, ea⟩ := List.getElem?_eq_some_iff.mp hi
 obtain ⟨b, eb⟩ := List.getElem?_eq_some_iff.mp hj
 rcases Nat.lt_trichotomy i j with q | q | q
 ·exact absurd (ea.trans eb.symm) (h i j a b q)
 ·exact q
 ·exact absurd (eb.trans ea.symm) (h j i b a q)
noncomputable def nbM (ts : List (List Int)) (i : Int) : List Int := ts.flatMap fun t => match t with | [a, b] => (if a = i then [b] else []) ++ (if b = i then [a] else []) | _ => []
theorem nbM_snoc (l : List (List Int)) (a b k : Int) : nbM (l ++ [[a, b]]) k = nbM l k ++ ((if a = k then [b] else []) ++ (if b = k then [a] else [])) := by
 unfold nbM
 rw [List.flatMap_append]
 simp
theorem nbM_len (k : Int) : ∀ l : List (List Int), (nbM l k).length <= 2 * l.length
 | [] => Nat.le_refl _
 | t :: l => by
  have ih := nbM_len k l
  unfold nbM at ih ⊢
  rw [List.flatMap_cons, List.length_append, List.length_cons]
  have : (match t with | [a, b] => (if a = k then [b] else []) ++ (if b = k then [a] else []) | _ => []).length <= 2 := by
   split
   ·rw [List.length_append]
    split <;> split <;> simp
   ·exact Nat.zero_le _
  (first | lia | omega)
noncomputable def NbAt (H : Hp) (n : Addr) (m : Int) (ts : List (List Int)) : Prop := ∃ ps : List Addr, H n = some (.lst (ps.map V.ref)) /\ ps.length = m.toNat /\ ∀ (j : Nat) q, ps[j]? = some q -> H q = some (.lst ((nbM ts j).map V.int))
theorem NbAt.at' {H H' : Hp} {n : Addr} {m : Int} {ts : List (List Int)} (h : NbAt H n m ts) (k : ∀ b xs, H b = some (.lst xs) -> H' b = some (.lst xs)) : NbAt H' n m ts := by
 refine gz9 fun _ bk0 => ?_
 obtain ⟨ps, h1, h2, h3⟩ := h
 refine bk0 ?_
 exact ⟨ps, k _ _ h1, h2, fun j q e => k _ _ (h3 j q e)⟩
noncomputable def NbN (H : Hp) (n : Addr) (m : Int) (ts : List (List Int)) (N : Addr -> Prop) : Prop := ∃ ps : List Addr, H n = some (.lst (ps.map V.ref)) /\ ps.length = m.toNat /\ (∀ (j : Nat) q, ps[j]? = some q -> H q = some (.lst ((nbM ts j).map V.int))) /\ N n /\ ∀ q ∈ ps, N q
theorem NbN.nb {H : Hp} {n : Addr} {m : Int} {ts : List (List Int)} {N : Addr -> Prop} (h : NbN H n m ts N) : NbAt H n m ts := let ⟨ps, h1, h2, h3, _⟩ := h; ⟨ps, h1, h2, h3⟩
theorem NbN.at' {H H' : Hp} {n : Addr} {m : Int} {ts : List (List Int)} {N N' : Addr -> Prop} (h : NbN H n m ts N) (k : ∀ b xs, N b -> H b = some (.lst xs) -> H' b = some (.lst xs)) (i : ∀ b xs, N b -> H b = some (.lst xs) -> N' b) : NbN H' n m ts N' := by
 refine gz9 fun _ bk0 => ?_
 obtain ⟨ps, h1, h2, h3, h4, h5⟩ := h
 refine bk0 ?_
 have at_ : ∀ q ∈ ps, ∃ xs, H q = some (.lst xs) := fun q hq => by
  obtain ⟨j, hj, e⟩ := List.getElem_of_mem hq
  exact ⟨_, h3 j q (by rw [<- e]; simp [hj])⟩
 exact ⟨ps, k _ _ h4 h1, h2, fun j q e => k _ _ (h5 q (List.mem_of_getElem? e)) (h3 j q e), i _ _ h4 h1, fun q hq => let ⟨_, e⟩ := at_ q hq; i _ _ (h5 q hq) e⟩
noncomputable def spNb (K : W.Frag) : Sp := fun vs H Q _ => ∃ (m : Int) (e : Addr) (rs : List Addr) (ts : List (List Int)), vs = [.int m, .ref e] /\ 0 <= m /\ m <= 24 /\ SqL K H e (rs.map V.ref) /\ TupsH H rs ts /\ rs.length <= 300 ∧
 (∀ t ∈ ts, ∃ a b : Int, t = [a, b] /\ 0 <= a /\ a < b /\ b < m) /\ ∀ n H', Same H H' -> NbN H' n m ts (fun b => H b = none) -> Q (.ref n) H'
theorem scNb : FnScope ["many", "ends_sorted", "neighbours", "a", "b"] ["many", "ends_sorted"] (defScope sNb) := ⟨rfl, rfl, rfl, by decide +kernel, rfl, by decide +kernel, by decide +kernel⟩
theorem nd_own1 : ([".0", "point"] : List Str).Nodup := by decide +kernel
theorem ok_nb {f : Addr} {fd : FuncData} (F : Fun K "neighbours_of" "neighbours_of" sNb f fd) (grange : mg "range" = none) : FnOk P w K mg base CX0 1 f fd ["many", "ends_sorted"] (spNb K) := by
 refine F.ok scNb (fun vs H Q E h => ?_) (fun cdv A outer s H vs Q E hr h => ?_)
 ·obtain ⟨m, e, rs, ts, rfl, _⟩ := h
  rfl
 ·obtain ⟨m, e, rs, ts, rfl, hm0, hm, hS, hT, h64, hts, hQ⟩ := h
  refine ⟨_, pss_cons (ps_comp (i := 2) (own := [".0", "point"]) (cl := []) (caps := []) (js := []) rfl (caps0 rfl rfl (by decide +kernel) (by decide +kernel)) (pi_range1 rfl grange (pa_cons (pv 0) pa_nil))
    (fun pins C s H1 fp => pg_name (i := 1) nd_own1 rfl (Or.inl rfl)) (fun pins C s H1 fp => pts_nil) (fun pins C s H1 fp => pe_lst pa_nil) scNb.nd rfl rfl rfl)
   (pss_cons (ps_for PassesOwn.never rfl (pi_list (pv 1)) (pg_tup rfl (pgs_cons (pg_name (i := 3) scNb.nd rfl (Or.inl rfl)) (pgs_cons (pg_name (i := 4) scNb.nd rfl (Or.inl rfl)) pgs_nil)))
    (pss_cons (ps_expr (pe_bm PySem.F.plainAttrs_list PySem.F.slot_list_append PySem.F.type_list_append mt_append (pe_ix ix_list (pv 2) (pv 3) (fun _ _ => rfl)) (pa_cons (pv 4) pa_nil)))
    (pss_one (ps_expr (pe_bm PySem.F.plainAttrs_list PySem.F.slot_list_append PySem.F.type_list_append mt_append (pe_ix ix_list (pv 2) (pv 4) (fun _ _ => rfl)) (pa_cons (pv 3) pa_nil))))))
   (pss_one (ps_ret (pv 2)))), ?_⟩
  refine ⟨_, rfl, m, rfl, by (first | lia | omega), by (first | lia | omega), fun d hd => ?_⟩
  refine turns_range (n := m.toNat) (fun i ys σ H2 => ∃ ps : List Addr, ys = ps.map V.ref /\ ps.length = i /\ i <= m.toNat /\ Same H H2 /\ H2 d = some (.lst ys) /\ ps.Nodup /\ ∀ q ∈ ps, H2 q = some (.lst []) /\ H q = none /\ q ≠ d)
   ⟨[], rfl, rfl, Nat.zero_le _, Same.new hd, upd_same, List.nodup_nil, fun q hq => by cases hq⟩ ?_ ?_ ?_
  ·rintro i ys σ H2 ⟨ps, rfl, hl, hi, _, hd2, _, _⟩
   refine ⟨hd2, small1000 ?_⟩
   rw [List.length_map]; (first | lia | omega)
  ·rintro i ys σ H2 hi ⟨ps, rfl, hl, _, s2, hd2, hnd, hps⟩
   unfold gName
   dsimp only
   refine yes_of ?_
   refine ⟨Nat.zero_le _, fun q hq => ?_⟩
   have nqd : d ≠ q := ne_of_none hd2 hq
   have s3 := s2.trans (Same.new (o := .lst []) hq)
   have hqH : H q = none := s2.free hq
   refine ⟨by rw [upd_ne nqd]; exact hd2, Nxt.mk hi ⟨ps ++ [q], by rw [List.map_append]; rfl, by rw [List.length_append, hl]; rfl, hi, fun b o e => ?_, upd_same, ?_, fun r hr => ?_⟩⟩
   ·rw [upd_ne (ne_of_none e hd)]
    exact s3 b o e
   ·rw [List.nodup_append]
    refine ⟨hnd, by simp, fun a ha b hb => ?_⟩
    rw [List.mem_singleton] at hb
    subst hb
    exact ne_of_none (hps a ha).1 hq
   ·rcases List.mem_append.mp hr with hr | hr
    ·obtain ⟨a1, a2, a3⟩ := hps r hr
     refine ⟨?_, a2, a3⟩
     rw [upd_ne a3, upd_ne (ne_of_none a1 hq)]
     exact a1
    ·rw [List.mem_singleton] at hr
     subst hr
     refine ⟨?_, hqH, nqd.symm⟩
     rw [upd_ne nqd.symm, upd_same]
  ·rintro ys σ0 H2 ⟨ps, rfl, hl, _, s2, hd2, hnd, hps⟩
   refine ⟨_, rfl, e, rfl, ⟨_, s2.seq hS⟩, for_list (K := K) (a := e) (xs := rs.map V.ref)
    (fun i σ H3 => ∃ e3 e4, σ = [some (.int m), some (.ref e), some (.ref d), e3, e4] /\ Same H H3 /\ H3 d = some (.lst (ps.map V.ref)) /\ ∀ (j : Nat) q, ps[j]? = some q -> H3 q = some (.lst ((nbM (ts.take i) j).map V.int)))
    ⟨none, none, rfl, s2, hd2, fun j q hq => by rw [(hps q (List.mem_of_getElem? hq)).1]; rfl⟩ (fun i σ H3 _ ⟨_, _, _, s3, _⟩ => s3.seq hS) ?_ ?_⟩
   ·rintro i x σ H3 hi ⟨e3, e4, rfl, s3, hd3, hq3⟩
    have hil : i < rs.length := by have := (List.getElem?_eq_some_iff.mp hi).1; rw [List.length_map] at this; exact this
    obtain ⟨r, rfl, er⟩ : ∃ r, x = V.ref r /\ rs[i]? = some r := by
     rw [List.getElem?_map] at hi
     cases q : rs[i]? with
     | none => rw [q] at hi; cases hi
     | some r => rw [q] at hi; exact ⟨r, (Option.some.inj hi).symm, rfl⟩
    refine gz9 fun _ bk0 => ?_
    obtain ⟨t, et, ht, _⟩ := Sx.pair_at (i := i) (a := r) hT er
    obtain ⟨a, b, rfl, ha0, hab, hb⟩ := hts t (List.mem_of_getElem? et)
    refine bk0 ?_
    have htk : ts.take (i + 1) = ts.take i ++ [[a, b]] := by rw [List.take_succ, et]; rfl
    have at_ : ∀ z : Int, 0 <= z -> z < m -> ∃ q, ps[z.toNat]? = some q /\ atI (ps.map V.ref) z = some (V.ref q) := fun z h0 h1 => by
     have hz : z.toNat < ps.length := by (first | lia | omega)
     refine ⟨ps[z.toNat], by simp [hz], ?_⟩
     have := atI_nat (xs := ps.map V.ref) (j := z.toNat) (v := .ref ps[z.toNat]) (by simp [hz])
     rwa [Int.toNat_of_nonneg h0] at this
    have lnb : ∀ j : Nat, ((nbM (ts.take i) j).map V.int).length <= 2 * i := fun j => by
     rw [List.length_map]
     have := nbM_len (j : Int) (ts.take i)
     rw [List.length_take] at this
     (first | lia | omega)
    refine gz9 fun _ bk0 => ?_
    obtain ⟨qa, eqa, ata⟩ := at_ a ha0 (by (first | lia | omega))
    obtain ⟨qb, eqb, atb⟩ := at_ b (by (first | lia | omega)) hb
    refine bk0 ?_
    have hxa := hq3 _ _ eqa
    have hxb := hq3 _ _ eqb
    have nab : qb ≠ qa := fun z => by
     subst z
     have := ix_inj hnd eqa eqb
     (first | lia | omega)
    refine gz9 fun _ bk0 => ?_
    obtain ⟨_, fa, na⟩ := hps qa (List.mem_of_getElem? eqa)
    obtain ⟨_, fb, nb⟩ := hps qb (List.mem_of_getElem? eqb)
    refine bk0 ?_
    refine ⟨r, _, rfl, SqT.of (s3 r _ ht), rfl, _, _, rfl, _, _, rfl, rfl, ?_⟩
    have la := lnb a.toNat
    have lb := lnb b.toNat
    refine ⟨_, rfl, _, rfl, d, _, a, _, rfl, rfl, SqL.of hd3, ata, .inl ⟨rfl, _, SqL.of hxa⟩, _, rfl, qa, _, _, rfl, rfl, hxa, small1000 (by (first | lia | omega)), ?_⟩
    have hd4 : upd H3 qa (.lst ((nbM (ts.take i) a.toNat).map V.int ++ [.int b])) d = some (.lst (ps.map V.ref)) := by rw [upd_ne na.symm]; exact hd3
    have hxb4 : upd H3 qa (.lst ((nbM (ts.take i) a.toNat).map V.int ++ [.int b])) qb = some (.lst ((nbM (ts.take i) b.toNat).map V.int)) := by rw [upd_ne nab]; exact hxb
    refine ⟨_, rfl, _, rfl, d, _, b, _, rfl, rfl, SqL.of hd4, atb, .inl ⟨rfl, _, SqL.of hxb4⟩, _, rfl, qb, _, _, rfl, rfl, hxb4, small1000 (by (first | lia | omega)), ?_⟩
    refine ⟨_, _, rfl, fun c o ec => ?_, by rw [upd_ne nb.symm]; exact hd4, fun j q hq => ?_⟩
    ·rw [upd_ne (ne_of_none ec fb), upd_ne (ne_of_none ec fa)]
     exact s3 c o ec
    ·rw [htk, nbM_snoc]
     by_cases z : q = qb
     ·subst z
      have e := ix_inj hnd hq eqb
      subst e
      rw [upd_same, if_neg (by (first | lia | omega)), if_pos (by (first | lia | omega)), List.nil_append, List.map_append]
      rfl
     ·by_cases z2 : q = qa
      ·subst z2
       have e := ix_inj hnd hq eqa
       subst e
       rw [upd_ne z, upd_same, if_pos (by (first | lia | omega)), if_neg (by (first | lia | omega)), List.append_nil, List.map_append]
       rfl
      ·have n1 : ¬ a = (j : Int) := fun k => z2 (Option.some.inj (hq.symm.trans (by rw [<- eqa]; congr 1; (first | lia | omega))))
       have n2 : ¬ b = (j : Int) := fun k => z (Option.some.inj (hq.symm.trans (by rw [<- eqb]; congr 1; (first | lia | omega))))
       rw [upd_ne z, upd_ne z2, if_neg n1, if_neg n2, List.append_nil, List.append_nil]
       exact hq3 j q hq
   ·rintro σ H3 ⟨e3, e4, rfl, s3, hd3, hq3⟩
    have lrs := Paired.length hT
    rw [List.length_map, lrs, List.take_length] at hq3
    exact ⟨_, rfl, hQ d H3 s3 ⟨ps, hd3, hl, hq3, hd, fun q hq => (hps q hq).2.1⟩⟩
end
end K29
namespace K29
open PySem L2 PyProof.Rows
section
variable {P : Program} {w : World} {K : W.Frag} {mg : Str -> Option Value} {base : Heap}
theorem putF_len (f : Str) (v : V) : ∀ l : List (Str × V), (putF f v l).length <= l.length + 1
 | [] => Nat.le_refl _
 | p :: r => by
  obtain ⟨g, u⟩ := p
  show (if g = f then (g, v) :: r else (g, u) :: putF f v r).length <= _
  split
  ·exact Nat.le_succ _
  ·have := putF_len f v r
   simp only [List.length_cons]
   (first | lia | omega)
noncomputable def wt (T : List Mt.Tri) (k : List Int) : Int := match valV (wd T) (k.map Sum.inl) with | some (.int z) => z | _ => 0
theorem wt_get {T : List Mt.Tri} {t : Mt.Tri} (h : t ∈ T) : ∃ z, valV (wd T) (kk t) = some (.int z) := by
 have e := wd_some T t
 rw [List.any_eq_true.mpr ⟨Mt.key t, List.mem_map.mpr ⟨t, h, rfl⟩, decide_eq_true rfl⟩] at e
 obtain ⟨v, hv⟩ := Option.isSome_iff_exists.mp e
 unfold valV at hv
 cases q : (wd T).find? fun kv => decide (kv.1 = kk t) with
 | none => rw [q] at hv; cases hv
 | some p =>
  obtain ⟨u, _, eu⟩ := List.mem_map.mp (List.mem_of_find?_eq_some q)
  unfold valV
  rw [q, <- eu]
  exact ⟨_, rfl⟩
theorem wt_val {T : List Mt.Tri} {t : Mt.Tri} (h : t ∈ T) : valV (wd T) (kk t) = some (.int (wt T (Mt.key t))) := by
 obtain ⟨z, hz⟩ := wt_get h
 have e : wt T (Mt.key t) = z := by
  unfold wt
  rw [show valV (wd T) ((Mt.key t).map Sum.inl) = some (.int z) from hz]
 rw [e, hz]
theorem wt_of : ∀ {T : List Mt.Tri}, (T.map Mt.key).Nodup -> ∀ t ∈ T, valV (wd T) (kk t) = some (.int t.2.2)
 | [], _, _, h => nomatch h
 | u :: T, hn, t, h => by
  obtain ⟨h1, h2⟩ := List.nodup_cons.mp hn
  by_cases e : kk u = kk t
  ·have e' : Mt.key u = Mt.key t := inl_inj e
   rcases List.mem_cons.mp h with rfl | h
   ·show ((wd (t :: T)).find? _).map _ = _
    unfold wd
    rw [List.map_cons, List.find?_cons_of_pos (by simp)]
    rfl
   ·exact absurd (List.mem_map.mpr ⟨t, h, e'.symm⟩) h1
  ·rcases List.mem_cons.mp h with rfl | h
   ·exact absurd rfl e
   ·have := wt_of h2 t h
    unfold valV at this ⊢
    unfold wd at this ⊢
    rw [List.map_cons, List.find?_cons_of_neg (by simpa using e)]
    exact this
theorem wt_key {T : List Mt.Tri} (hn : (T.map Mt.key).Nodup) : ∀ t ∈ T, wt T (Mt.key t) = t.2.2 := fun t h => by
 unfold wt
 rw [show valV (wd T) ((Mt.key t).map Sum.inl) = _ from wt_of hn t h]
structure WebAt (C : Addr) (H : Hp) (p : Addr) (m : Int) (T : List Mt.Tri) (ks : List (List Int)) : Prop where
 ex : ∃ (dx d l n : Addr) (fs : List (Str × V)) (qs : List Addr), H p = some (.ins C dx fs) /\ fs.lookup ("many" : Str) = some (.int m) /\ fs.lookup ("weights" : Str) = some (.ref d) /\ fs.lookup ("ties_sorted" : Str) = some (.ref l) ∧
  fs.lookup ("neighbours" : Str) = some (.ref n) /\ (fs.lookup ("size" : Str) = none /\ fs.lookup ("ties" : Str) = none /\ fs.lookup ("weight" : Str) = none /\ fs.lookup ("tied" : Str) = none) /\ H d = some (.dT (wd T)) /\ H l = some (.lst (qs.map V.ref)) ∧
  TupsH H qs (ks.map fun k => k ++ [wt T k]) /\ NbAt H n m ks /\ qs.length <= 300
 pm : ks.Perm (T.map Mt.key)
 srt : ks.Pairwise (fun a b => HT.lexLt b a = false)
 m0 : 0 <= m
 m1 : m <= 24
 ok : Mt.scan m T [] = .good
theorem WebAt.same {C : Addr} {H H' : Hp} {p : Addr} {m : Int} {T : List Mt.Tri} {ks : List (List Int)} (s : Same H H') (W : WebAt C H p m T ks) : WebAt C H' p m T ks := by
 refine gz9 fun _ bk0 => ?_
 obtain ⟨dx, d, l, n, fs, qs, h1, h2, h3, h4, h5, h6, h7, h8, h9, h10, h11⟩ := W.ex
 refine bk0 ?_
 exact ⟨⟨dx, d, l, n, fs, qs, s _ _ h1, h2, h3, h4, h5, h6, s _ _ h7, s _ _ h8, TupsH.same s h9, h10.at' fun b xs e => s _ _ e, h11⟩, W.pm, W.srt, W.m0, W.m1, W.ok⟩
structure WebN (C : Addr) (H : Hp) (p : Addr) (m : Int) (T : List Mt.Tri) (ks : List (List Int)) (N : Addr -> Prop) : Prop where
 ex : ∃ (dx d l n : Addr) (fs : List (Str × V)) (qs : List Addr), H p = some (.ins C dx fs) /\ fs.lookup ("many" : Str) = some (.int m) /\ fs.lookup ("weights" : Str) = some (.ref d) /\ fs.lookup ("ties_sorted" : Str) = some (.ref l) ∧
  fs.lookup ("neighbours" : Str) = some (.ref n) /\ (fs.lookup ("size" : Str) = none /\ fs.lookup ("ties" : Str) = none /\ fs.lookup ("weight" : Str) = none /\ fs.lookup ("tied" : Str) = none) /\ H d = some (.dT (wd T)) /\ H l = some (.lst (qs.map V.ref)) ∧
  TupsH H qs (ks.map fun k => k ++ [wt T k]) /\ NbN H n m ks N /\ qs.length <= 300 /\ N l
 pm : ks.Perm (T.map Mt.key)
 srt : ks.Pairwise (fun a b => HT.lexLt b a = false)
 m0 : 0 <= m
 m1 : m <= 24
 ok : Mt.scan m T [] = .good
theorem WebN.web {C : Addr} {H : Hp} {p : Addr} {m : Int} {T : List Mt.Tri} {ks : List (List Int)} {N : Addr -> Prop} (W : WebN C H p m T ks N) : WebAt C H p m T ks := by
 refine gz9 fun _ bk0 => ?_
 obtain ⟨dx, d, l, n, fs, qs, h1, h2, h3, h4, h5, h6, h7, h8, h9, h10, h11, _⟩ := W.ex
 refine bk0 ?_
 exact ⟨⟨dx, d, l, n, fs, qs, h1, h2, h3, h4, h5, h6, h7, h8, h9, h10.nb, h11⟩, W.pm, W.srt, W.m0, W.m1, W.ok⟩
noncomputable def spInit (C : Addr) (K : W.Frag) : Sp := fun vs H Q _ => ∃ (p : Addr) (m : Int) (l dx : Addr) (rs : List Addr) (T : List Mt.Tri), vs = [.ref p, .int m, .ref l] /\ H p = some (.ins C dx []) /\ RowsAt K H l rs T /\ T.length <= 300 /\ ¬ (m < 0 \/ 24 < m) /\ Mt.scan m T [] = .good ∧
 ∀ H' ks, (∀ b o, H b = some o -> b ≠ p -> H' b = some o) -> WebN C H' p m T ks (fun b => H b = none) -> Q .non H'
theorem scInit : FnScope ["self", "many", "ties", "weights", "ends_sorted"] ["self", "many", "ties"] (defScope sInit) := ⟨rfl, rfl, rfl, by decide +kernel, rfl, by decide +kernel, by decide +kernel⟩
noncomputable def compI : Scope := { kind := .function, names := [(Str.ofString ".0", .local), (Str.ofString "a", .local), (Str.ofString "b", .local), (Str.ofString "weights", .free)], isGenerator := false, isCoroutine := false, more := [] }
theorem nd_own2 : ([".0", "a", "b", "weights"] : List Str).Nodup := by decide +kernel
theorem capsI {f : Addr} {cdv : Value} {A : Around} {outer : List Env} {s : Shared} {H : Hp} {E : XK} :
  Caps (cxOf CX0 P w K mg base ["self", "many", "ties", "weights", "ends_sorted"] "Web.__init__" (defScope sInit) f cdv A outer s H E).nox compI [(Str.ofString "weights", s.heap.objs.size + 1)] [".0", "a", "b"] ["weights"] [3] := by
 have e1 : (cxOf CX0 P w K mg base ["self", "many", "ties", "weights", "ends_sorted"] "Web.__init__" (defScope sInit) f cdv A outer s H E).nox.env.cells = [(Str.ofString "weights", s.heap.objs.size + 1)] := by rfl
 have e2 : (relabel compI (cxOf CX0 P w K mg base ["self", "many", "ties", "weights", "ends_sorted"] "Web.__init__" (defScope sInit) f cdv A outer s H E).nox.env).names = [(Str.ofString ".0", .local), (Str.ofString "a", .local), (Str.ofString "b", .local), (Str.ofString "weights", .cell)] := by rfl
 refine ⟨rfl, fun x c h => by rw [e1]; exact h, rfl, by decide +kernel, by decide +kernel, fun x hx => ?_, rfl, fun i x e => ?_⟩
 ·rw [e2] at hx
  have hx : x = Str.ofString "weights" := by
   rcases hx with hx | hx
   all_goals
    have := PySem.mem_of_lookup hx
    simpa using this
  subst hx
  exact ⟨_, rfl⟩
 ·match i, e with
  | 0, e =>
   cases (Option.some.inj e)
   exact ⟨3, rfl, rfl, rfl, rfl, by rw [e2]; rfl⟩
  | n + 1, e => cases e
end
end K29
namespace K29
open PySem L2 PyProof.Rows
section
variable {P : Program} {w : World} {K : W.Frag} {mg : Str -> Option Value} {base : Heap}
structure TxtW (K : W.Frag) (mg : Str -> Option Value) (C : Addr) : Prop where
 cl : Cls K C
 n1 : NoAttr K C "many"
 n2 : NoAttr K C "weights"
 n3 : NoAttr K C "ties_sorted"
 n4 : NoAttr K C "neighbours"
 mgC : mg "Web" = some (.ref C)
 srt : mg "sorted" = none
 lst : mg "list" = none
theorem tk1 {H H' : Hp} {p : Addr} {C dx : Addr} {fs : List (Str × V)} (s : Same H H') (h : H p = some (.ins C dx fs)) : H' p = some (.ins C dx fs) := s p _ h
theorem ok_init {f fS fW fN C : Addr} {fd fdS fdW fdN : FuncData} (F : Fun K "__init__" "Web.__init__" sInit f fd) (T0 : TxtW K mg C)
  (GS : FnOk P w K mg base CX0 1 fS fdS ["many"] spSize) (mS : mg "check_size" = some (.ref fS)) (kS : PySem.W.keepIn K (.ref fS) = true) (bS : Binds K fdS ["many"] [])
  (GW : FnOk P w K mg base CX0 2 fW fdW ["many", "ties"] (spWts K)) (mW : mg "weights_of" = some (.ref fW)) (kW : PySem.W.keepIn K (.ref fW) = true) (bW : Binds K fdW ["many", "ties"] [])
  (GN : FnOk P w K mg base CX0 1 fN fdN ["many", "ends_sorted"] (spNb K)) (mN : mg "neighbours_of" = some (.ref fN)) (kN : PySem.W.keepIn K (.ref fN) = true) (bN : Binds K fdN ["many", "ends_sorted"] []) :
  FnOk P w K mg base CX0 3 f fd ["self", "many", "ties"] (spInit C K) := by
 refine F.ok scInit (fun vs H Q E h => ?_) (fun cdv A outer s H vs Q E hr h => ?_)
 ·obtain ⟨p, m, l, dx, rs, T, rfl, _⟩ := h
  rfl
 ·obtain ⟨p, m, l, dx, rs, T, rfl, hp, R, h64, c, sg, hG⟩ := h
  have hu := hu_of hr
  have hr1 : Room 1 _ := hr.mono (by decide)
  refine ⟨_, pss_cons (ps_expr (pe_call GS hr1 rfl mS kS bS .nil pass0 (pa_cons (pv 1) pa_nil)))
   (pss_cons (ps_set (i := 3) scInit.nd rfl (Or.inr rfl) (pe_call GW hr rfl mW kW bW .nil pass0 (pa_cons (pv 1) (pa_cons (pv 2) pa_nil))))
   (pss_cons (ps_set (i := 4) scInit.nd rfl (Or.inl rfl) (pe_callB (call_sortedDB rfl) (by rfl) T0.srt boot_sorted (pa_cons (pv 3) pa_nil)))
   (pss_cons (ps_fld (pv 0) (pv 1) rfl)
   (pss_cons (ps_fld (pv 0) (pv 3) rfl)
   (pss_cons (ps_fld (pv 0) (pe_comp (g := gTup K 2 (gCons (gName 1) (gCons (gName 2) gNil))) (own := [".0", "a", "b"]) (caps := ["weights"]) (js := [3]) rfl capsI (pi_list (pv 4))
     (fun pins C s H1 fp => pg_tup (n := 2) rfl (pgs_cons (pg_name (i := 1) nd_own2 rfl (Or.inl rfl) (Or.inr rfl)) (pgs_cons (pg_name (i := 2) nd_own2 rfl (Or.inl rfl) (Or.inr rfl)) pgs_nil)))
     (fun pins C s H1 fp => pts_nil)
     (fun pins C s H1 fp => pe_tup (pa_cons (pv 1) (pa_cons (pv 2) (pa_cons (pe_dget hu (pv 3) (pe_tup (pa_cons (pv 1) (pa_cons (pv 2) pa_nil))) (fun _ _ => rfl)) pa_nil))))) rfl)
   (pss_one (ps_fld (pv 0) (pe_call GN hr1 rfl mN kN bN .nil pass0 (pa_cons (pv 1) (pa_cons (pv 4) pa_nil))) rfl))))))), ?_⟩
  refine ⟨_, rfl, m, rfl, c, ?_⟩
  refine ⟨_, rfl, _, rfl, m, l, rs, T, rfl, R, by (first | lia | omega), sg, fun d H1 hd s1 hd1 => ?_⟩
  obtain ⟨hnd, hnb⟩ := Mt.scan_good sg List.nodup_nil
  rw [List.nil_append] at hnd
  refine ⟨_, rfl, d, wd T, T.map Mt.key, rfl, hd1, ?_, ?_, ?_, fun qs qs' ks q hqs hS hq => ?_⟩
  ·unfold wd; rw [List.map_map, List.map_map]; rfl
  ·intro t ht
   obtain ⟨u, _, rfl⟩ := List.mem_map.mp ht
   exact fun z => by cases z
  ·unfold wd; rw [List.length_map]; (first | lia | omega)
  obtain ⟨hqs', hperm, hlen⟩ := hqs.sorted hS
  have lq : qs'.length = ks.length := Paired.length hqs'
  have lk : ks.length = T.length := by rw [hperm.length_eq, List.length_map]
  have kin : ∀ k ∈ ks, ∃ t ∈ T, Mt.key t = k := fun k hk => List.mem_map.mp (hperm.mem_iff.mp hk)
  have s2 : Same H1 (upd H1 q (.lst (qs'.map V.ref))) := Same.new hq
  have hp2 := tk1 s2 (tk1 s1 hp)
  have hd2 := s2 d _ hd1
  have hq2 : upd H1 q (.lst (qs'.map V.ref)) q = some (.lst (qs'.map V.ref)) := upd_same
  have npd : d ≠ p := ne_of hd2 hp2 (by intro z; cases z)
  have npq : q ≠ p := ne_of hq2 hp2 (by intro z; cases z)
  have hqsA := TupsH.same s2 hqs'
  generalize upd H1 q (.lst (qs'.map V.ref)) = H2 at s2 hp2 hd2 hq2 hqsA ⊢
  have s02 : Same H H2 := s1.trans s2
  refine ⟨_, rfl, _, rfl, p, C, dx, _, rfl, hp2, T0.cl, T0.n1, (by show 0 < 1000; decide), ?_⟩
  refine ⟨_, rfl, _, rfl, p, C, dx, _, rfl, upd_same, T0.cl, T0.n2, Nat.lt_of_le_of_lt (putF_len _ _ _) (by show 0 + 1 < 1000; decide), ?_⟩
  rw [upd_upd]
  generalize hF : putF "weights" (V.ref d) (putF "many" (V.int m) []) = F2
  have lF : F2.length <= 2 := by
   rw [<- hF]
   exact Nat.le_trans (putF_len _ _ _) (Nat.succ_le_succ (putF_len _ _ _))
  have k3 : ∀ b o, H2 b = some o -> b ≠ p -> upd H2 p (.ins C dx F2) b = some o := fun b o e n => by rw [upd_ne n]; exact e
  have tup3 : ∀ {qs : List Addr} {us : List (List Int)}, TupsH H2 qs us -> TupsH (upd H2 p (.ins C dx F2)) qs us := fun {qs us} h =>
   zip_paired (Paired.length h) fun z hz => ⟨k3 _ _ (paired_zip h z hz).1 (ne_of (paired_zip h z hz).1 hp2 (by intro y; cases y)), (paired_zip h z hz).2⟩
  have hp3 : upd H2 p (.ins C dx F2) p = some (.ins C dx F2) := upd_same
  have hd3 := k3 d _ hd2 npd
  have hq3 := k3 q _ hq2 npq
  have hqs3 := tup3 hqsA
  generalize upd H2 p (.ins C dx F2) = H3 at k3 hp3 hd3 hq3 hqs3 ⊢
  refine ⟨_, rfl, q, rfl, ⟨_, SqL.of hq3⟩, fun D hD => ?_⟩
  refine turns_list (K := K) (a := q) (xs := qs'.map V.ref) (fun i ys σ H4 => ∃ (zs : List Addr) (e0 e1 e2 : Option V), ys = zs.map V.ref /\ σ = [e0, e1, e2, some (.ref d)] /\ Same H3 H4 /\ H4 D = some (.lst ys) ∧
    TupsH H4 zs ((ks.take i).map fun k => k ++ [wt T k])) ⟨[], none, none, none, rfl, rfl, Same.new hD, upd_same, .nil⟩ ?_ ?_ ?_
  ·rintro i ys σ H4 ⟨zs, e0, e1, e2, rfl, rfl, s4, hD4, hz⟩
   refine ⟨hD4, small1000 ?_, SqL.of (s4 q _ hq3)⟩
   have := Paired.length hz
   rw [List.length_map, List.length_take] at this
   rw [List.length_map]
   (first | lia | omega)
  ·rintro i x ys σ H4 hi ⟨zs, e0, e1, e2, rfl, rfl, s4, hD4, hz⟩
   have hil : i < qs'.length := by have := (List.getElem?_eq_some_iff.mp hi).1; rw [List.length_map] at this; exact this
   obtain ⟨r, rfl, er⟩ : ∃ r, x = V.ref r /\ qs'[i]? = some r := by
    rw [List.getElem?_map] at hi
    cases y : qs'[i]? with
    | none => rw [y] at hi; cases hi
    | some r => rw [y] at hi; exact ⟨r, (Option.some.inj hi).symm, rfl⟩
   refine gz9 fun _ bk0 => ?_
   obtain ⟨k, ek, hk, _⟩ := Sx.pair_at (i := i) (a := r) hqs3 er
   obtain ⟨t, ht, rfl⟩ := kin k (List.mem_of_getElem? ek)
   refine bk0 ?_
   refine ⟨r, _, rfl, SqT.of (s4 r _ hk), rfl, _, _, rfl, _, _, rfl, rfl, ?_⟩
   dsimp only
   refine yes_of ?_
   refine ⟨_, rfl, _, rfl, _, rfl, _, rfl, _, rfl, (by show 2 <= sizeLine; decide), fun y hy => ?_⟩
   have s5 : Same H4 (upd H4 y (.tup [.int (Mt.lo t.1 t.2.1), .int (Mt.hi t.1 t.2.1)])) := Same.new hy
   have hy5 : upd H4 y (.tup [.int (Mt.lo t.1 t.2.1), .int (Mt.hi t.1 t.2.1)]) y = some (.tup ((kk t).map kV)) := upd_same
   have hd5 := s5 d _ (s4 d _ hd3)
   refine ⟨d, .int (wt T (Mt.key t)), rfl, ?_, (by show 3 <= sizeLine; decide), fun z hz' => ?_⟩
   ·have g := DGet.t (k := kk t) hd5 hy5
    rw [wt_val ht] at g
    exact g
   have s6 := s5.trans (Same.new (o := .tup [.int (Mt.lo t.1 t.2.1), .int (Mt.hi t.1 t.2.1), .int (wt T (Mt.key t))]) hz')
   have hD6 := s6 D _ hD4
   have hz6 : upd (upd H4 y (.tup [.int (Mt.lo t.1 t.2.1), .int (Mt.hi t.1 t.2.1)])) z (.tup [.int (Mt.lo t.1 t.2.1), .int (Mt.hi t.1 t.2.1), .int (wt T (Mt.key t))]) z = some (.tup [.int (Mt.lo t.1 t.2.1), .int (Mt.hi t.1 t.2.1), .int (wt T (Mt.key t))]) := upd_same
   refine ⟨hD6, Nxt.mk (by rw [List.length_map]; exact hil) ⟨zs ++ [z], _, _, _, by rw [List.map_append]; rfl, rfl, fun b o e => ?_, upd_same, ?_⟩⟩
   ·rw [upd_ne (ne_of_none e hD)]
    exact s6 b o (s4 b o e)
   ·have nt : ∀ {qs : List Addr} {us : List (List Int)} {L : List V}, TupsH H4 qs us -> TupsH (upd (upd (upd H4 y (.tup [.int (Mt.lo t.1 t.2.1), .int (Mt.hi t.1 t.2.1)])) z (.tup [.int (Mt.lo t.1 t.2.1), .int (Mt.hi t.1 t.2.1), .int (wt T (Mt.key t))])) D (.lst L)) qs us := fun {qs us L} h =>
     zip_paired (Paired.length h) fun g hg => ⟨by rw [upd_ne (ne_of (paired_zip h g hg).1 hD4 (by intro y; cases y))]; exact s6 _ _ (paired_zip h g hg).1, (paired_zip h g hg).2⟩
    rw [List.take_succ, ek, List.map_append]
    refine paired_snoc (nt hz) ⟨?_, fun z => by cases z⟩
    rw [upd_ne (ne_of hz6 hD6 (by intro y; cases y))]
    exact hz6
  ·rintro ys σ H4 ⟨zs, e0, e1, e2, rfl, rfl, s4, hD4, hz⟩
   rw [List.length_map, lq, List.take_length] at hz
   have lz := Paired.length hz
   rw [List.length_map] at lz
   have hp4 := s4 p _ hp3
   have npD : D ≠ p := ne_of hD4 hp4 (by intro z; cases z)
   refine ⟨_, rfl, p, C, dx, _, rfl, hp4, T0.cl, T0.n3, (by (first | lia | omega)), ?_⟩
   generalize hF3 : putF "ties_sorted" (V.ref D) F2 = F3
   have lF3 : F3.length <= 3 := by
    rw [<- hF3]
    exact Nat.le_trans (putF_len _ _ _) (Nat.succ_le_succ lF)
   have k5 : ∀ b o, H4 b = some o -> b ≠ p -> upd H4 p (.ins C dx F3) b = some o := fun b o e n => by rw [upd_ne n]; exact e
   have hq5 := k5 q _ (s4 q _ hq3) npq
   have hqs4 := TupsH.same s4 hqs3
   have tup5 : ∀ {qs : List Addr} {us : List (List Int)}, TupsH H4 qs us -> TupsH (upd H4 p (.ins C dx F3)) qs us := fun {qs us} h =>
    zip_paired (Paired.length h) fun z hz => ⟨k5 _ _ (paired_zip h z hz).1 (ne_of (paired_zip h z hz).1 hp4 (by intro y; cases y)), (paired_zip h z hz).2⟩
   have hp5 : upd H4 p (.ins C dx F3) p = some (.ins C dx F3) := upd_same
   have hD5 := k5 D _ hD4 npD
   have hqs5 := tup5 hqs4
   have hz5 := tup5 hz
   refine ⟨_, rfl, _, rfl, m, q, qs', ks, rfl, by (first | lia | omega), by (first | lia | omega), SqL.of hq5, hqs5, by (first | lia | omega), fun k hk => ?_, fun n H6 s6 nb6 => ?_⟩
   ·obtain ⟨t, ht, rfl⟩ := kin k hk
    obtain ⟨r1, r2, r3⟩ := Mt.key_range (hnb t ht)
    exact ⟨_, _, rfl, r1, r2, r3⟩
   ·have hp6 := s6 p _ hp5
    have hd6 := s6 d _ (k5 d _ (s4 d _ hd3) npd)
    refine ⟨_, rfl, p, C, dx, _, rfl, hp6, T0.cl, T0.n4, (by (first | lia | omega)), ?_⟩
    have k7 : ∀ (fs : List (Str × V)) b o, H6 b = some o -> b ≠ p -> upd H6 p (.ins C dx fs) b = some o := fun fs b o e n => by rw [upd_ne n]; exact e
    have old : ∀ b, b ≠ p -> upd H4 p (.ins C dx F3) b = none -> H b = none := fun b nb q => by
     cases e : H b with
     | none => rfl
     | some o =>
      have := k5 b o (s4 b o (k3 b o (s02 b o e) nb)) nb
      rw [q] at this
      cases this
    have fD : H D = none := by
     cases e : H D with
     | none => rfl
     | some o =>
      have := k3 D o (s02 D o e) npD
      rw [hD] at this
      cases this
    refine hG _ ks (fun b o e n => ?_) ⟨⟨dx, d, D, n, _, zs, upd_same, ?_, ?_, ?_, ?_, ⟨?_, ?_, ?_, ?_⟩, k7 _ d _ hd6 npd, k7 _ D _ (s6 D _ hD5) npD, ?_, nb6.at' (fun b xs _ e => k7 _ b _ e (ne_of e hp6 (by intro z; cases z))) (fun b xs q e => old b (ne_of e hp6 (by intro z; cases z)) q), by (first | lia | omega), fD⟩, hperm, hS.ord, by (first | lia | omega), by (first | lia | omega), sg⟩
    ·exact k7 _ b o (s6 b o (k5 b o (s4 b o (k3 b o (s02 b o e) n)) n)) n
    ·rw [lookup_putF, if_neg (by decide +kernel), <- hF3, lookup_putF, if_neg (by decide +kernel), <- hF, lookup_putF, if_neg (by decide +kernel), lookup_putF, if_pos rfl]
    ·rw [lookup_putF, if_neg (by decide +kernel), <- hF3, lookup_putF, if_neg (by decide +kernel), <- hF, lookup_putF, if_pos rfl]
    ·rw [lookup_putF, if_neg (by decide +kernel), <- hF3, lookup_putF, if_pos rfl]
    ·rw [lookup_putF, if_pos rfl]
    iterate 4
     ·rw [lookup_putF, if_neg (by decide +kernel), <- hF3, lookup_putF, if_neg (by decide +kernel), <- hF, lookup_putF, if_neg (by decide +kernel), lookup_putF, if_neg (by decide +kernel)]
      rfl
    ·exact zip_paired (Paired.length hz5) fun z hz => ⟨k7 _ _ _ (s6 _ _ (paired_zip hz5 z hz).1) (ne_of (s6 _ _ (paired_zip hz5 z hz).1) hp6 (by intro y; cases y)), (paired_zip hz5 z hz).2⟩
noncomputable def spMSize (C : Addr) : Sp := fun vs H Q _ => ∃ (p : Addr) (m : Int) (T : List Mt.Tri) (ks : List (List Int)), vs = [.ref p] /\ WebAt C H p m T ks /\ Q (.int m) H
theorem scMSize : FnScope ["self"] ["self"] (defScope sMSize) := ⟨rfl, rfl, rfl, by decide +kernel, rfl, by decide +kernel, by decide +kernel⟩
theorem ok_msize {f C : Addr} {fd : FuncData} (F : Fun K "size" "Web.size" sMSize f fd) (T0 : TxtW K mg C) : FnOk P w K mg base CX0 1 f fd ["self"] (spMSize C) := by
 refine F.ok scMSize (fun vs H Q E h => ?_) (fun cdv A outer s H vs Q E hr h => ?_)
 ·obtain ⟨p, m, T, ks, rfl, _⟩ := h
  rfl
 ·obtain ⟨p, m, T, ks, rfl, W, hQ⟩ := h
  refine gz9 fun _ bk0 => ?_
  obtain ⟨dx, d, l, n, fs, qs, h1, h2, _⟩ := W.ex
  refine bk0 ?_
  refine ⟨_, pss_one (ps_ret (pe_fld (pv 0) rfl)), ?_⟩
  exact ⟨_, rfl, p, C, dx, _, _, rfl, h1, T0.cl, T0.n1, h2, hQ⟩
noncomputable def tis (T : List Mt.Tri) (ks : List (List Int)) : List (List Int) := ks.map fun k => k ++ [wt T k]
noncomputable def spTies (C : Addr) : Sp := fun vs H Q _ => ∃ (p : Addr) (m : Int) (T : List Mt.Tri) (ks : List (List Int)), vs = [.ref p] /\ WebAt C H p m T ks /\ ∀ (q : Addr) (qs : List Addr), H q = none -> TupsH H qs (tis T ks) -> Q (.ref q) (upd H q (.lst (qs.map V.ref)))
theorem scTies : FnScope ["self"] ["self"] (defScope sTies) := ⟨rfl, rfl, rfl, by decide +kernel, rfl, by decide +kernel, by decide +kernel⟩
theorem ok_ties {f C : Addr} {fd : FuncData} (F : Fun K "ties" "Web.ties" sTies f fd) (T0 : TxtW K mg C) : FnOk P w K mg base CX0 1 f fd ["self"] (spTies C) := by
 refine F.ok scTies (fun vs H Q E h => ?_) (fun cdv A outer s H vs Q E hr h => ?_)
 ·obtain ⟨p, m, T, ks, rfl, _⟩ := h
  rfl
 ·obtain ⟨p, m, T, ks, rfl, W, hQ⟩ := h
  refine gz9 fun _ bk0 => ?_
  obtain ⟨dx, d, l, n, fs, qs, h1, h2, h3, h4, h5, h6, h7, h8, h9, _⟩ := W.ex
  refine bk0 ?_
  refine ⟨_, pss_one (ps_ret (pe_callTy call_list_of (by rfl) T0.lst boot_list (pa_cons (pe_fld (pv 0) rfl) pa_nil))), ?_⟩
  exact ⟨_, rfl, p, C, dx, _, _, rfl, h1, T0.cl, T0.n3, h4, l, _, rfl, .inl (SqL.of h8), fun q hq => hQ q qs hq h9⟩
noncomputable def spTied (C : Addr) : Sp := fun vs H Q _ => ∃ (p : Addr) (m : Int) (T : List Mt.Tri) (ks : List (List Int)) (a : Int), vs = [.ref p, .int a] /\ WebAt C H p m T ks /\ 0 <= a /\ a < m ∧
 ∀ q : Addr, H q = none -> Q (.ref q) (upd H q (.lst ((nbM ks a).map V.int)))
noncomputable def wtV (T : List Mt.Tri) (a b : Int) : V := (valV (wd T) ([Mt.lo a b, Mt.hi a b].map Sum.inl)).getD .non
noncomputable def spWeight (C : Addr) : Sp := fun vs H Q _ => ∃ (p : Addr) (m : Int) (T : List Mt.Tri) (ks : List (List Int)) (a b : Int), vs = [.ref p, .int a, .int b] /\ WebAt C H p m T ks /\ ∀ H', Same H H' -> Q (wtV T a b) H'
theorem scWeight : FnScope ["self", "a", "b"] ["self", "a", "b"] (defScope sWeight) := ⟨rfl, rfl, rfl, by decide +kernel, rfl, by decide +kernel, by decide +kernel⟩
theorem ok_weight {f fO C : Addr} {fd fdO : FuncData} (F : Fun K "weight" "Web.weight" sWeight f fd) (T0 : TxtW K mg C)
  (GO : FnOk P w K mg base CX0 1 fO fdO ["a", "b"] spOrd) (mO : mg "ordered" = some (.ref fO)) (kO : PySem.W.keepIn K (.ref fO) = true) (bO : Binds K fdO ["a", "b"] []) : FnOk P w K mg base CX0 2 f fd ["self", "a", "b"] (spWeight C) := by
 refine F.ok scWeight (fun vs H Q E h => ?_) (fun cdv A outer s H vs Q E hr h => ?_)
 ·obtain ⟨p, m, T, ks, a, b, rfl, _⟩ := h
  rfl
 ·obtain ⟨p, m, T, ks, a, b, rfl, W, hQ⟩ := h
  have hu := hu_of hr
  refine gz9 fun _ bk0 => ?_
  obtain ⟨dx, d, l, n, fs, qs, h1, h2, h3, h4, h5, h6, h7, _⟩ := W.ex
  refine bk0 ?_
  refine ⟨_, pss_one (ps_ret (pe_dget1 hu (pe_fld (pv 0) rfl) (pe_call GO (hr.mono (by decide)) rfl mO kO bO .nil pass0 (pa_cons (pv 1) (pa_cons (pv 2) pa_nil))) ⟨rfl, rfl, rfl, rfl⟩)), ?_⟩
  refine ⟨_, rfl, p, C, dx, _, _, rfl, h1, T0.cl, T0.n2, h3, d, rfl, .inr ⟨_, Rd.of h7⟩, _, rfl, _, rfl, a, b, rfl, fun q hq => ?_⟩
  have s1 : Same H (upd H q (.tup [.int (Mt.lo a b), .int (Mt.hi a b)])) := Same.new hq
  exact ⟨_, DGet.t (k := [Mt.lo a b, Mt.hi a b].map Sum.inl) (s1 d _ h7) upd_same, hQ _ s1⟩
end
end K29
namespace Mt
structure Dt (m : Int) (T : List Tri) : Prop where
 nd : (T.map key).Nodup
 at_ : ∀ t ∈ T, 0 <= t.1 /\ t.1 < t.2.1 /\ t.2.1 < m
theorem key_of {t : Tri} (h : t.1 < t.2.1) : key t = [t.1, t.2.1] := by
 unfold key lo hi
 rw [if_neg (by (first | lia | omega)), if_pos (by (first | lia | omega))]
end Mt
namespace K29
open PySem L2 PyProof.Rows
theorem Dt.put {m : Int} {T : List Mt.Tri} (h : Mt.Dt m T) {a b w : Int} (h0 : 0 <= a) (h1 : a < b) (h2 : b < m) : ∃ T', putK (wd T) ([a, b].map Sum.inl) (.int w) = wd T' /\ Mt.Dt m T' /\ (∀ k, k ∈ T'.map Mt.key ↔ k ∈ T.map Mt.key \/ k = [a, b]) /\ T'.length <= T.length + 1 := by
 have ek : Mt.key (a, b, w) = [a, b] := Mt.key_of (t := (a, b, w)) h1
 have kk' : kk (a, b, w) = [a, b].map Sum.inl := by unfold kk; rw [ek]
 have es := wd_some T (a, b, w)
 rw [kk'] at es
 by_cases c : ((T.map Mt.key).any fun k => decide (k = Mt.key (a, b, w))) = true
 ·have hin : [a, b] ∈ T.map Mt.key := by
   obtain ⟨k, hk, e⟩ := List.any_eq_true.mp c
   rw [<- ek, <- of_decide_eq_true e]; exact hk
  have kt : ∀ t ∈ T, (kk t = [a, b].map Sum.inl ↔ Mt.key t = [a, b]) := fun t _ => ⟨fun e => inl_inj e, fun e => by unfold kk; rw [e]⟩
  have km : (T.map fun t => if Mt.key t = [a, b] then (t.1, t.2.1, w) else t).map Mt.key = T.map Mt.key := by
   rw [List.map_map]
   refine List.map_congr_left fun t _ => ?_
   show Mt.key (if Mt.key t = [a, b] then (t.1, t.2.1, w) else t) = Mt.key t
   split <;> rfl
  refine ⟨T.map fun t => if Mt.key t = [a, b] then (t.1, t.2.1, w) else t, ?_, ⟨by rw [km]; exact h.nd, fun t ht => ?_⟩, fun k => ?_, by rw [List.length_map]; exact Nat.le_succ _⟩
  ·unfold putK
   rw [valV_any, es, if_pos c]
   unfold wd
   rw [List.map_map, List.map_map]
   refine List.map_congr_left fun t ht => ?_
   show (if kk t = [a, b].map Sum.inl then (kk t, V.int w) else (kk t, V.int t.2.2)) = (kk (if Mt.key t = [a, b] then (t.1, t.2.1, w) else t), V.int (if Mt.key t = [a, b] then (t.1, t.2.1, w) else t).2.2)
   by_cases e : Mt.key t = [a, b]
   ·rw [if_pos ((kt t ht).mpr e), if_pos e]; rfl
   ·rw [if_neg fun z => e ((kt t ht).mp z), if_neg e]
  ·obtain ⟨u, hu, rfl⟩ := List.mem_map.mp ht
   have := h.at_ u hu
   split <;> exact this
  ·rw [km]
   exact ⟨.inl, fun z => z.elim id fun e => e ▸ hin⟩
 ·have hno : [a, b] ∉ T.map Mt.key := fun z => c (List.any_eq_true.mpr ⟨_, z, decide_eq_true ek.symm⟩)
  have vn : valV (wd T) ([a, b].map Sum.inl) = none := by
   cases q : valV (wd T) ([a, b].map Sum.inl) with
   | none => rfl
   | some v => rw [q] at es; exact absurd es.symm c
  refine ⟨T ++ [(a, b, w)], ?_, ⟨?_, fun t ht => ?_⟩, fun k => ?_, by rw [List.length_append]; exact Nat.le_refl _⟩
  ·rw [putK_new _ vn, <- kk']
   unfold wd
   rw [List.map_append]; rfl
  ·rw [List.map_append, List.nodup_append]
   refine ⟨h.nd, by simp, fun x hx y hy => ?_⟩
   rw [List.map_cons, List.map_nil, List.mem_singleton, ek] at hy
   subst hy
   exact fun z => hno (z ▸ hx)
  ·rcases List.mem_append.mp ht with ht | ht
   ·exact h.at_ t ht
   ·rw [List.mem_singleton] at ht; subst ht; exact ⟨h0, h1, h2⟩
  ·rw [List.map_append, List.mem_append, List.map_cons, List.map_nil, List.mem_singleton, ek]
section
variable {P : Program} {w : World} {K : W.Frag} {mg : Str -> Option Value} {base : Heap}
noncomputable def spTie : Sp := fun vs H Q _ => ∃ a b : Int, vs = [.int a, .int b] /\ ∀ p, H p = none -> Q (.ref p) (upd H p (.tup [.int (Mt.lo a b), .int (Mt.hi a b)]))
theorem scTie : FnScope ["_law_a", "_law_b"] ["_law_a", "_law_b"] (defScope sTie) := ⟨rfl, rfl, rfl, by decide +kernel, rfl, by decide +kernel, by decide +kernel⟩
theorem ok_tie {f : Addr} {fd : FuncData} (F : Fun K "_law_tie" "_law_tie" sTie f fd) (gmin : mg "min" = none) (gmax : mg "max" = none) : FnOk P w K mg base CX0 1 f fd ["_law_a", "_law_b"] spTie := by
 refine F.ok scTie (fun vs H Q E h => ?_) (fun cdv A outer s H vs Q E hr h => ?_)
 ·obtain ⟨a, b, rfl, _⟩ := h
  rfl
 ·obtain ⟨a, b, rfl, h⟩ := h
  refine ⟨_, pss_one (ps_ret (pe_tup (pa_cons (pe_callB (call_min2 rfl) (by rfl) gmin boot_min (pa_cons (pv 0) (pa_cons (pv 1) pa_nil)))
   (pa_cons (pe_callB (call_max2 rfl) (by rfl) gmax boot_max (pa_cons (pv 0) (pa_cons (pv 1) pa_nil))) pa_nil)))), ?_⟩
  exact ⟨_, rfl, _, rfl, a, b, rfl, _, rfl, _, rfl, a, b, rfl, (by show 2 <= sizeLine; decide), fun p hp => h p hp⟩
noncomputable def spCell (K : W.Frag) : Sp := fun vs H Q _ => ∃ (a : Addr) (ns : List Int) (k : Int), vs = [.ref a, .int k] /\ 0 <= k /\ SqL K H a (ns.map V.int) /\ ∀ n : Int, Q (.int n) H
theorem scCell : FnScope ["_law_script", "_law_k"] ["_law_script", "_law_k"] (defScope sCell) := ⟨rfl, rfl, rfl, by decide +kernel, rfl, by decide +kernel, by decide +kernel⟩
theorem ok_cell {f : Addr} {fd : FuncData} (F : Fun K "_law_cell_at" "_law_cell_at" sCell f fd) (glen : mg "len" = none) : FnOk P w K mg base CX0 1 f fd ["_law_script", "_law_k"] (spCell K) := by
 refine F.ok scCell (fun vs H Q E h => ?_) (fun cdv A outer s H vs Q E hr h => ?_)
 ·obtain ⟨a, ns, k, rfl, _⟩ := h
  rfl
 ·obtain ⟨a, ns, k, rfl, k0, hS, hQ⟩ := h
  refine ⟨_, pss_cons (ps_if (pt_cmpR op_lt (pv 1) (pe_callB call_len_seq (by rfl) glen PySem.boot_len (pa_cons (pv 0) pa_nil)) (nomark _)) (pss_one (ps_ret (pe_ix ix_list (pv 0) (pv 1) (fun _ _ => rfl)))) pss_nil) (pss_one (ps_ret pe_int)), ?_⟩
  refine ⟨_, rfl, _, rfl, a, _, rfl, .inl hS, _, _, rfl, rfl, _, rfl, ?_⟩
  refine ite2 (fun c => ?_) (fun c => hQ 0)
  have c := of_decide_eq_true c
  rw [List.length_map] at c
  obtain ⟨v, _, hv⟩ := pick2 (xs := ns) k0 c
  exact ⟨_, rfl, _, rfl, a, _, _, V.int v, rfl, rfl, hS, hv, hQ _⟩
noncomputable def spOrder (K : W.Frag) : Sp := fun vs H Q _ => ∃ (a : Addr) (m : Int) (ns : List Int), vs = [.ref a, .int m] /\ SqL K H a (ns.map V.int) /\ 0 <= m /\ m <= 24 ∧
 ∀ (l : Addr) (t : List Int) (H' : Hp), H l = none -> Same H H' -> H' l = some (.lst (t.map V.int)) -> t.Perm (upto m.toNat) -> Q (.ref l) H'
noncomputable abbrev nmO : List Str := ["_law_script", "_law_many", "_law_order_here", "_law_k", "_law_number"]
theorem scOrder : FnScope nmO ["_law_script", "_law_many"] (defScope sOrder) := ⟨rfl, rfl, rfl, by decide +kernel, rfl, by decide +kernel, by decide +kernel⟩
theorem ok_order {f fC : Addr} {fd fdC : FuncData} (F : Fun K "_law_order" "_law_order" sOrder f fd) (grange : mg "range" = none)
  (GC : FnOk P w K mg base CX0 1 fC fdC ["_law_script", "_law_k"] (spCell K)) (mC : mg "_law_cell_at" = some (.ref fC)) (kC : PySem.W.keepIn K (.ref fC) = true) (bC : Binds K fdC ["_law_script", "_law_k"] []) :
  FnOk P w K mg base CX0 2 f fd ["_law_script", "_law_many"] (spOrder K) := by
 refine F.ok scOrder (fun vs H Q E h => ?_) (fun cdv A outer s H vs Q E hr h => ?_)
 ·obtain ⟨a, m, ns, rfl, _⟩ := h
  rfl
 ·obtain ⟨a, m, ns, rfl, hS, m0, m1, hQ⟩ := h
  refine ⟨_, pss_cons (ps_set (i := 2) scOrder.nd rfl (Or.inl rfl) (pe_lst pa_nil))
   (pss_cons (ps_for PassesOwn.never rfl (pi_range1 rfl grange (pa_cons (pv 1) pa_nil)) (pg_name (i := 3) scOrder.nd rfl (Or.inl rfl))
    (pss_cons (ps_set (i := 4) scOrder.nd rfl (Or.inl rfl) (pe_op op_mod (pe_op op_mul (pe_op op_add (pe_op op_add (pe_call GC hr rfl mC kC bC .nil pass0 (pa_cons (pv 0) (pa_cons (pe_op op_add (pv 3) pe_int) pa_nil))) (pe_op op_mul pe_int (pv 3))) pe_int) pe_int) pe_int))
    (pss_one (ps_expr (pe_bm PySem.F.plainAttrs_list PySem.F.slot_list_insert PySem.F.type_list_insert mt_insert (pv 2) (pa_cons (pe_op op_mod (pv 4) (pe_op op_add (pv 3) pe_int)) (pa_cons (pv 3) pa_nil)))))))
   (pss_one (ps_ret (pv 2)))), ?_⟩
  refine ⟨Nat.zero_le _, fun l hl => ?_⟩
  have s0 : Same H (upd H l (.lst [])) := Same.new hl
  refine ⟨_, rfl, m, rfl, by (first | lia | omega), by (first | lia | omega), for_range (lo := 0) (n := m.toNat) (fun i σ H2 => ∃ (t : List Int) (e3 e4 : Option V), σ = [some (.ref a), some (.int m), some (.ref l), e3, e4] /\ Same H H2 /\ H2 l = some (.lst (t.map V.int)) /\ t.Perm (upto i) /\ i <= m.toNat)
   ⟨[], none, none, rfl, s0, upd_same, List.Perm.refl _, Nat.zero_le _⟩ ?_ ?_⟩
  ·rintro i σ H2 hi ⟨t, e3, e4, rfl, s2, h2, hp, li⟩
   have lt := hp.length_eq
   rw [upto_len] at lt
   refine ⟨_, rfl, _, rfl, _, _, rfl, rfl, a, ns, _, rfl, by (first | lia | omega), s2.seq hS, fun n => ⟨_, rfl, _, _, rfl, rfl, .inl ⟨by decide, by decide⟩, _, _, rfl, rfl, _, _, rfl, rfl, _, _, rfl, rfl, .inr ⟨by decide, by decide⟩, _, _, rfl, rfl, (by show (0 : Int) < 2147483647; decide), ?_⟩⟩
   dsimp only [gName, List.set_cons_succ, List.set_cons_zero]
   generalize (n + 7 * (0 + (i : Int)) + 3) * 48271 % 2147483647 = nu
   refine ⟨_, rfl, .inl ⟨rfl, _, SqL.of h2⟩, _, rfl, _, rfl, _, _, rfl, rfl, _, _, rfl, rfl, (by show (0 : Int) < 0 + (i : Int) + 1; (first | lia | omega)), _, rfl, l, _, _, _, rfl, rfl, h2, Int.emod_nonneg _ (by (first | lia | omega)), ?_, ?_, ?_⟩
   ·rw [List.length_map, lt]
    have := Int.emod_lt_of_pos nu (show 0 < 0 + (i : Int) + 1 by (first | lia | omega))
    (first | lia | omega)
   ·rw [List.length_map]; (first | lia | omega)
   ·refine ⟨t.take (nu % (0 + (i : Int) + 1)).toNat ++ (0 + (i : Int)) :: t.drop (nu % (0 + (i : Int) + 1)).toNat, _, _, rfl, fun c o e => ?_, ?_, ?_, hi⟩
    ·rw [upd_ne (ne_of_none e hl)]; exact s2 c o e
    ·rw [upd_same, List.map_append, List.map_cons, List.map_take, List.map_drop]
    ·rw [upto_succ, Int.zero_add]
     refine List.perm_middle.trans ?_
     rw [List.take_append_drop]
     exact (List.Perm.cons _ hp).trans (List.perm_append_singleton _ _).symm
  ·rintro σ H2 ⟨t, e3, e4, rfl, s2, h2, hp, li⟩
   exact ⟨_, rfl, hQ l t H2 hl s2 h2 hp⟩
noncomputable def spDrawn : Sp := fun vs H Q _ => ∃ c f m : Int, vs = [.int c, .int f, .int m] /\ -(2 ^ 64) < f /\ f < 2 ^ 64 /\ 0 < m /\ ∀ n : Int, 0 <= n -> n < m -> Q (.int n) H
theorem scDrawn : FnScope ["_law_cell", "_law_factor", "_law_many", "_law_number"] ["_law_cell", "_law_factor", "_law_many"] (defScope sDrawn) := ⟨rfl, rfl, rfl, by decide +kernel, rfl, by decide +kernel, by decide +kernel⟩
theorem ok_drawn {f : Addr} {fd : FuncData} (F : Fun K "_law_drawn" "_law_drawn" sDrawn f fd) : FnOk P w K mg base CX0 1 f fd ["_law_cell", "_law_factor", "_law_many"] spDrawn := by
 refine F.ok scDrawn (fun vs H Q E h => ?_) (fun cdv A outer s H vs Q E hr h => ?_)
 ·obtain ⟨c, g, m, rfl, _⟩ := h
  rfl
 ·obtain ⟨c, g, m, rfl, g0, g1, m0, hQ⟩ := h
  refine ⟨_, pss_cons (ps_set (i := 3) scDrawn.nd rfl (Or.inl rfl) (pe_op op_mod (pe_op op_mul (pe_op op_add (pv 0) pe_int) (pv 1)) pe_int)) (pss_one (ps_ret (pe_op op_mod (pe_op op_mod (pe_op op_mul (pv 3) (pv 3)) pe_int) (pv 2)))), ?_⟩
  refine ⟨_, rfl, _, _, rfl, rfl, _, rfl, _, _, rfl, rfl, .inr ⟨g0, g1⟩, _, _, rfl, rfl, (by show (0 : Int) < 2147483629; decide), ?_⟩
  dsimp only [gName, List.set_cons_succ, List.set_cons_zero]
  have n0 := Int.emod_nonneg ((c + 11) * g) (show (2147483629 : Int) ≠ 0 by decide)
  have n1 := Int.emod_lt_of_pos ((c + 11) * g) (show (0 : Int) < 2147483629 by decide)
  generalize (c + 11) * g % 2147483629 = n at n0 n1 ⊢
  refine ⟨_, rfl, _, rfl, _, _, rfl, rfl, .inl ⟨by (first | lia | omega), by (first | lia | omega)⟩, _, _, rfl, rfl, (by show (0 : Int) < 1000003; decide), _, rfl, _, _, rfl, rfl, m0, ?_⟩
  exact hQ _ (Int.emod_nonneg _ (by (first | lia | omega))) (Int.emod_lt_of_pos _ m0)
noncomputable def spLw : Sp := fun vs H Q _ => ∃ c : Int, vs = [.int c] /\ ∀ n : Int, Q (.int n) H
theorem scLw : FnScope ["_law_cell"] ["_law_cell"] (defScope sLw) := ⟨rfl, rfl, rfl, by decide +kernel, rfl, by decide +kernel, by decide +kernel⟩
theorem ok_lw {f : Addr} {fd : FuncData} (F : Fun K "_law_weight" "_law_weight" sLw f fd) : FnOk P w K mg base CX0 1 f fd ["_law_cell"] spLw := by
 refine F.ok scLw (fun vs H Q E h => ?_) (fun cdv A outer s H vs Q E hr h => ?_)
 ·obtain ⟨c, rfl, _⟩ := h
  rfl
 ·obtain ⟨c, rfl, hQ⟩ := h
  refine ⟨_, pss_cons (ps_if (pt_cmpR op_eq (pe_op op_mod (pv 0) pe_int) pe_int (nomark _)) (pss_one (ps_ret (pe_op op_sub (pe_op op_mod (pe_op op_fdiv (pv 0) pe_int) (pe_op op_sub (pe_op op_mul pe_int (pe_op op_pow pe_int pe_int)) pe_int)) (pe_op op_sub (pe_op op_pow pe_int pe_int) pe_int)))) pss_nil)
   (pss_cons (ps_if (pt_cmpR op_eq (pe_op op_mod (pv 0) pe_int) pe_int (nomark _)) (pss_one (ps_ret (pe_op op_sub (pe_op op_mod (pe_op op_fdiv (pv 0) pe_int) pe_int) pe_int))) pss_nil)
   (pss_one (ps_ret (pe_op op_sub (pe_op op_mod (pe_op op_fdiv (pv 0) pe_int) pe_int) (pe_op op_pow pe_int pe_int))))), ?_⟩
  refine ⟨_, rfl, _, _, rfl, rfl, (by show (0 : Int) < 3; decide), rfl, _, rfl, ?_⟩
  refine ite2 (fun _ => ?_) (fun _ => ?_)
  ·exact ⟨_, rfl, _, _, rfl, rfl, ⟨by decide, by decide⟩, _, _, rfl, rfl, ⟨by decide, by decide, by decide⟩, _, _, rfl, rfl, .inl ⟨by decide, by decide⟩, _, _, rfl, rfl, _, _, rfl, rfl, (by show (0 : Int) < 2 * 10 ^ (60 : Int).toNat - 1; decide), _, _, rfl, rfl, ⟨by decide, by decide, by decide⟩, _, _, rfl, rfl, _, _, rfl, rfl, hQ _⟩
  refine ⟨_, rfl, _, _, rfl, rfl, (by show (0 : Int) < 3; decide), rfl, _, rfl, ?_⟩
  refine ite2 (fun _ => ?_) (fun _ => ?_)
  ·exact ⟨_, rfl, _, _, rfl, rfl, ⟨by decide, by decide⟩, _, _, rfl, rfl, (by show (0 : Int) < 9; decide), _, _, rfl, rfl, hQ _⟩
  ·exact ⟨_, rfl, _, _, rfl, rfl, ⟨by decide, by decide⟩, _, _, rfl, rfl, (by show (0 : Int) < 2000000001; decide), _, _, rfl, rfl, ⟨by decide, by decide, by decide⟩, _, _, rfl, rfl, hQ _⟩
end
end K29
namespace L2
open PySem PySem.Spec PyProof.Rows
theorem paired_app {α β : Type} {F : α -> β -> Prop} : ∀ {l l' : List α} {m m' : List β}, Paired F l m -> Paired F l' m' -> Paired F (l ++ l') (m ++ m')
 | _, _, _, _, .nil, h => h
 | _, _, _, _, .cons h t, g => .cons h (paired_app t g)
theorem paired_rev {α β : Type} {F : α -> β -> Prop} : ∀ {l : List α} {m : List β}, Paired F l m -> Paired F l.reverse m.reverse
 | _, _, .nil => .nil
 | _, _, .cons h t => by
  rw [List.reverse_cons, List.reverse_cons]
  exact paired_app (paired_rev t) (.cons h .nil)
end L2
namespace K29
open PySem L2 PyProof.Rows
section
variable {P : Program} {w : World} {K : W.Frag} {mg : Str -> Option Value} {base : Heap}
noncomputable def spListed : Sp := fun vs H Q _ => ∃ (d : Addr) (m wy : Int) (T : List Mt.Tri), vs = [.ref d, .int wy] /\ H d = some (.dT (wd T)) /\ Mt.Dt m T /\ T.length <= 280 ∧
 ∀ (l : Addr) (rs : List Addr) (U : List Mt.Tri) (o : Obj) (H' : Hp), (∀ b u, H b = some u -> b ≠ d -> H' b = some u) -> H' d = some (.frz o (.dT (wd T))) -> H' l = some (.lst (rs.map V.ref)) -> TupsH H' rs (U.map Mt.tri) -> (U.map Mt.row).Perm (T.map Mt.row) -> Mt.scan m U [] = .good -> Q (.ref l) H'
noncomputable abbrev nmI : List Str := ["_law_ties", "_law_way", "_law_found", "_law_a", "_law_b"]
theorem scListed : FnScope nmI ["_law_ties", "_law_way"] (defScope sListed) := ⟨rfl, rfl, rfl, by decide +kernel, rfl, by decide +kernel, by decide +kernel⟩
theorem rows_keys {U T : List Mt.Tri} (h : (U.map Mt.row).Perm (T.map Mt.row)) : (U.map Mt.key).Perm (T.map Mt.key) := by
 have e : ∀ l : List Mt.Tri, (l.map Mt.row).map (fun r => r.take 2) = l.map Mt.key := fun l => by
  rw [List.map_map]
  exact List.map_congr_left fun t _ => rfl
 have := h.map (fun r => r.take 2)
 rwa [e, e] at this
noncomputable def tOne : TS := fun D σ H => ∃ (d r y : Addr) (o : Obj) (T : List Mt.Tri) (t : Mt.Tri) (wy : Int) (xs : List V), σ[0]? = some (some (.ref d)) /\ σ[1]? = some (some (.int wy)) /\ σ[2]? = some (some (.ref r)) /\ σ[3]? = some (some (.int t.1)) /\ σ[4]? = some (some (.int t.2.1)) /\ t ∈ T /\ (T.map Mt.key).Nodup /\ t.1 < t.2.1 ∧
 H d = some (.frz o (.dT (wd T))) /\ H r = some (.lst xs) /\ xs.length < 900 /\ ∀ (z : Addr) (u : Mt.Tri) (H' : Hp), (∀ c v, H c = some v -> c ≠ r -> H' c = some v) -> H' r = some (.lst (xs ++ [.ref z])) -> H' z = some (.tup ((Mt.tri u).map V.int)) -> Mt.row u = Mt.row t -> (u.1 = t.1 /\ u.2.1 = t.2.1 \/ u.1 = t.2.1 /\ u.2.1 = t.1) -> D.nx σ H'
theorem ok_listed {f : Addr} {fd : FuncData} (F : Fun K "_law_listed" "_law_listed" sListed f fd) : FnOk P w K mg base CX0 1 f fd ["_law_ties", "_law_way"] spListed := by
 refine F.ok scListed (fun vs H Q E h => ?_) (fun cdv A outer s H vs Q E hr h => ?_)
 ·obtain ⟨d, m, wy, T, rfl, _⟩ := h
  rfl
 ·obtain ⟨d, m, wy, T, rfl, hd, hT, lT, hQ⟩ := h
  have hu := hu_of hr
  refine' ⟨_, pss_cons ?s0 (pss_cons (ps_for ?qa ?qb ?qc ?qd (pss_one (PS.imp (t' := tOne) (ps_if ?c0 (pss_one ?c1) (pss_one ?c2)) ?i1))) (pss_one ?s2)), ?_⟩
  case s0 => exact ps_set (i := 2) scListed.nd rfl (Or.inl rfl) (pe_lst pa_nil)
  case qa => exact PassesOwn.never
  case qb => exact rfl
  case qc => exact pi_dict (pv 0)
  case qd => exact pg_tup rfl (pgs_cons (pg_name (i := 3) scListed.nd rfl (Or.inl rfl)) (pgs_cons (pg_name (i := 4) scListed.nd rfl (Or.inl rfl)) pgs_nil))
  case c0 => exact pt_cmpR op_eq (pe_op op_mod (pe_op op_add (pe_op op_add (pe_op op_mul pe_int (pv 3)) (pv 4)) (pv 1)) pe_int) pe_int (nomark _)
  case c1 => exact ps_expr (pe_bm PySem.F.plainAttrs_list PySem.F.slot_list_append PySem.F.type_list_append mt_append (pv 2) (pa_cons (pe_tup (pa_cons (pv 3) (pa_cons (pv 4) (pa_cons (pe_dget hu (pv 0) (pe_tup (pa_cons (pv 3) (pa_cons (pv 4) pa_nil))) (fun _ _ => rfl)) pa_nil)))) pa_nil))
  case c2 => exact ps_expr (pe_bm PySem.F.plainAttrs_list PySem.F.slot_list_append PySem.F.type_list_append mt_append (pv 2) (pa_cons (pe_tup (pa_cons (pv 4) (pa_cons (pv 3) (pa_cons (pe_dget hu (pv 0) (pe_tup (pa_cons (pv 3) (pa_cons (pv 4) pa_nil))) (fun _ _ => rfl)) pa_nil)))) pa_nil))
  case s2 => exact ps_ret (pe_ix ix_list (pe_lst (pa_cons (pv 2) (pa_cons (pe_rev (pv 2) (pe_un un_neg pe_int)) pa_nil))) (pe_op op_mod (pv 1) pe_int) (fun _ _ => rfl))
  case i1 =>
   rintro D σ H ⟨d, r, y, o, T, t, wy, xs, e0, e1, e2, e3, e4, ht, nd, tlt, hd, hr, lx, h⟩
   have ek : Mt.key t = [t.1, t.2.1] := Mt.key_of tlt
   have dg : ∀ (H' : Hp) (q : Addr), H' d = some (.frz o (.dT (wd T))) -> H' q = some (.tup [.int t.1, .int t.2.1]) -> DGet H' d (.ref q) (some (.int t.2.2)) := fun H' q e1 e2 => by
    refine .inr ⟨wd T, kk t, q, .inr ⟨o, e1⟩, rfl, ?_, (wt_of nd t ht).symm⟩
    unfold kk
    rw [ek]
    exact e2
   have fin : ∀ (u : Mt.Tri) (q z : Addr), H q = none -> Mt.row u = Mt.row t -> (u.1 = t.1 /\ u.2.1 = t.2.1 \/ u.1 = t.2.1 /\ u.2.1 = t.1) -> upd H q (.tup [.int t.1, .int t.2.1]) z = none -> D.nx σ (upd (upd (upd H q (.tup [.int t.1, .int t.2.1])) z (.tup ((Mt.tri u).map V.int))) r (.lst (xs ++ [.ref z]))) := fun u q z hq er ee hz => by
    have s1 : Same H (upd H q (.tup [.int t.1, .int t.2.1])) := Same.new hq
    have s2 := s1.trans (Same.new (o := .tup ((Mt.tri u).map V.int)) hz)
    have nrz : r ≠ z := ne_of_none (s1 r _ hr) hz
    refine h z u _ (fun c v e n => ?_) upd_same ?_ er ee
    ·rw [upd_ne n]; exact s2 c v e
    ·rw [upd_ne nrz.symm]; exact upd_same
   refine ⟨_, e3, _, _, rfl, rfl, .inl ⟨by decide, by decide⟩, _, e4, _, _, rfl, rfl, _, e1, _, _, rfl, rfl, _, _, rfl, rfl, (by show (0 : Int) < 2; decide), rfl, _, rfl, ?_⟩
   refine ite2 (fun _ => ?_) (fun _ => ?_)
   ·refine ⟨_, e2, .inl ⟨rfl, _, SqL.of hr⟩, _, e3, _, e4, _, e0, _, e3, _, e4, (by show 2 <= sizeLine; decide), fun q hq => ?_⟩
    have s1 : Same H (upd H q (.tup [.int t.1, .int t.2.1])) := Same.new hq
    refine ⟨d, .int t.2.2, rfl, dg _ q (s1 d _ hd) upd_same, (by show 3 <= sizeLine; decide), fun z hz => ?_⟩
    have nrz : r ≠ z := ne_of_none (s1 r _ hr) hz
    refine ⟨r, xs, _, rfl, rfl, (by rw [upd_ne nrz]; exact s1 r _ hr), small1000 (by (first | lia | omega)), ?_⟩
    exact fin t q z hq rfl (.inl ⟨rfl, rfl⟩) hz
   ·refine ⟨_, e2, .inl ⟨rfl, _, SqL.of hr⟩, _, e4, _, e3, _, e0, _, e3, _, e4, (by show 2 <= sizeLine; decide), fun q hq => ?_⟩
    have s1 : Same H (upd H q (.tup [.int t.1, .int t.2.1])) := Same.new hq
    refine ⟨d, .int t.2.2, rfl, dg _ q (s1 d _ hd) upd_same, (by show 3 <= sizeLine; decide), fun z hz => ?_⟩
    have nrz : r ≠ z := ne_of_none (s1 r _ hr) hz
    refine ⟨r, xs, _, rfl, rfl, (by rw [upd_ne nrz]; exact s1 r _ hr), small1000 (by (first | lia | omega)), ?_⟩
    refine fin (t.2.1, t.1, t.2.2) q z hq ?_ (.inr ⟨rfl, rfl⟩) hz
    unfold Mt.row Mt.key
    show [Mt.lo t.2.1 t.1, Mt.hi t.2.1 t.1] ++ _ = _
    rw [lo_comm, hi_comm]
  refine ⟨Nat.zero_le _, fun r hr0 => ?_⟩
  have s1 : Same H (upd H r (.lst [])) := Same.new hr0
  have nrd : r ≠ d := (ne_of_none hd hr0).symm
  have hr1 : upd H r (.lst []) r = some (.lst []) := upd_same
  dsimp only [gName, List.set_cons_succ, List.set_cons_zero]
  generalize upd H r (.lst []) = H1 at s1 hr1 ⊢
  have hd1 := s1 d _ hd
  refine ⟨_, rfl, d, wd T, T.map Mt.key, rfl, hd1, ?_, fun t ht => ?_, fun o rs hrs => ?_⟩
  ·unfold wd; rw [List.map_map, List.map_map]; rfl
  ·obtain ⟨u, _, rfl⟩ := List.mem_map.mp ht
   exact fun z => by cases z
  have lrs := Paired.length hrs
  rw [List.length_map] at lrs
  have k2 : ∀ b u, H b = some u -> b ≠ d -> upd H1 d (.frz o (.dT (wd T))) b = some u := fun b u e n => by rw [upd_ne n]; exact s1 b u e
  have hr2 : upd H1 d (.frz o (.dT (wd T))) r = some (.lst []) := by rw [upd_ne nrd]; exact hr1
  have hd2 : upd H1 d (.frz o (.dT (wd T))) d = some (.frz o (.dT (wd T))) := upd_same
  generalize upd H1 d (.frz o (.dT (wd T))) = H2 at hrs k2 hr2 hd2 ⊢
  refine for_dict (rs := rs) (fun i σ H3 => ∃ (fs : List Addr) (U : List Mt.Tri) (e3 e4 : Option V), σ = [some (.ref d), some (.int wy), some (.ref r), e3, e4] /\ (∀ b u, H b = some u -> b ≠ d -> H3 b = some u) /\ H3 d = some (.frz o (.dT (wd T))) /\ H3 r = some (.lst (fs.map V.ref)) /\ TupsH H3 rs (T.map Mt.key) /\ TupsH H3 fs (U.map Mt.tri) /\ U.map Mt.row = (T.take i).map Mt.row /\ (∀ u ∈ U, ¬ Mt.bad m u.1 u.2.1) /\ U.length = i /\ i <= T.length)
   ⟨[], [], none, none, rfl, k2, hd2, hr2, hrs, .nil, rfl, fun u hu => (by cases hu), rfl, Nat.zero_le _⟩ (fun i σ H3 _ ⟨_, _, _, _, _, _, hd3, _⟩ => hd3) ?_ ?_
  ·rintro i y σ H3 hi ⟨fs, U, e3, e4, rfl, k3, hd3, hr3, hrs3, hU, er, nb, lU, li⟩
   refine gz9 fun _ bk0 => ?_
   obtain ⟨kx, ekx, hy, _⟩ := Sx.pair_at (i := i) (a := y) hrs3 hi
   refine bk0 ?_
   rw [List.getElem?_map] at ekx
   obtain ⟨t, et, rfl⟩ : ∃ t, T[i]? = some t /\ Mt.key t = kx := by
    cases z : T[i]? with
    | none => rw [z] at ekx; cases ekx
    | some u => rw [z] at ekx; exact ⟨u, rfl, Option.some.inj ekx⟩
   have hin := List.mem_of_getElem? et
   obtain ⟨t0, t1, t2⟩ := hT.at_ t hin
   rw [Mt.key_of t1] at hy
   have hil : i < T.length := (List.getElem?_eq_some_iff.mp et).1
   have lfs := Paired.length hU
   rw [List.length_map] at lfs
   refine ⟨y, _, rfl, SqT.of hy, rfl, _, _, rfl, _, _, rfl, rfl, ?_⟩
   refine ⟨d, r, y, o, T, t, wy, _, rfl, rfl, rfl, rfl, rfl, hin, hT.nd, t1, hd3, hr3, by rw [List.length_map]; (first | lia | omega), fun z u H4 k4 hr4 hz4 eru eu => ?_⟩
   refine ⟨fs ++ [z], U ++ [u], _, _, rfl, fun b v e n => k4 b v (k3 b v e n) (ne_of_none e hr0), k4 d _ hd3 nrd.symm, by rw [hr4, List.map_append]; rfl, TupsH.at' hrs3 fun b xs e => k4 b _ e (ne_of e hr3 (by intro z; cases z)), ?_, ?_, fun v hv => ?_, by rw [List.length_append, lU]; rfl, hil⟩
   ·rw [List.map_append]
    exact paired_snoc (TupsH.at' hU fun b xs e => k4 b _ e (ne_of e hr3 (by intro z; cases z))) ⟨hz4, fun z => by cases z⟩
   ·rw [List.map_append, er, List.take_succ, et, List.map_append]
    show _ ++ [Mt.row u] = _ ++ [Mt.row t]
    rw [eru]
   ·rcases List.mem_append.mp hv with hv | hv
    ·exact nb v hv
    ·rw [List.mem_singleton] at hv
     subst hv
     unfold Mt.bad
     (first | lia | omega)
  ·rintro σ H3 ⟨fs, U, e3, e4, rfl, k3, hd3, hr3, hrs3, hU, er, nb, lU, li⟩
   rw [lrs, List.take_length] at er
   have lfs := Paired.length hU
   rw [List.length_map] at lfs
   have hk : (U.map Mt.key).Nodup := ((rows_keys (List.Perm.of_eq er)).nodup_iff).mpr hT.nd
   refine ⟨_, rfl, _, rfl, _, rfl, rfl, r, _, rfl, SqL.of hr3, fun r2 hr2' => ?_⟩
   rw [<- List.map_reverse]
   have s4 : Same H3 (upd H3 r2 (.lst (fs.reverse.map V.ref))) := Same.new hr2'
   have hr24 : upd H3 r2 (.lst (fs.reverse.map V.ref)) r2 = some (.lst (fs.reverse.map V.ref)) := upd_same
   generalize upd H3 r2 (.lst (fs.reverse.map V.ref)) = H4 at s4 hr24 ⊢
   refine ⟨(by show 2 <= sizeLine; decide), fun l hl => ?_⟩
   have s5 : Same H4 (upd H4 l (.lst ([r, r2].map V.ref))) := Same.new hl
   have s35 := s4.trans s5
   have hU5 := TupsH.same s35 hU
   have w0 := Int.emod_nonneg wy (show (2 : Int) ≠ 0 by decide)
   have w1 := Int.emod_lt_of_pos wy (show (0 : Int) < 2 by decide)
   have ew : wy % 2 = 0 \/ wy % 2 = 1 := by (first | lia | omega)
   have kk5 : ∀ b u, H b = some u -> b ≠ d -> upd H4 l (.lst ([r, r2].map V.ref)) b = some u := fun b u e n => s35 b u (k3 b u e n)
   rcases ew with ew | ew
   ·refine ⟨_, rfl, _, _, rfl, rfl, (by show (0 : Int) < 2; decide), l, _, _, .ref r, rfl, rfl, SqL.of upd_same, by rw [ew]; rfl, ?_⟩
    exact hQ r fs U o _ kk5 (s35 d _ hd3) (s35 r _ hr3) hU5 (List.Perm.of_eq er) (Mt.scan_ok (by simpa using hk) nb)
   ·refine ⟨_, rfl, _, _, rfl, rfl, (by show (0 : Int) < 2; decide), l, _, _, .ref r2, rfl, rfl, SqL.of upd_same, by rw [ew]; rfl, ?_⟩
    refine hQ r2 fs.reverse U.reverse o _ kk5 (s35 d _ hd3) (s5 r2 _ hr24) ?_ ?_ (Mt.scan_ok ?_ fun u hu => nb u (List.mem_reverse.mp hu))
    ·rw [List.map_reverse]
     exact paired_rev hU5
    ·rw [List.map_reverse]
     exact (List.reverse_perm _).trans (List.Perm.of_eq er)
    ·rw [List.map_reverse, List.nil_append]
     exact (List.reverse_perm _).nodup_iff.mpr hk
end
end K29
namespace L2
open PySem PySem.Spec PyProof.Rows
theorem for_enum {K : W.Frag} {a : Addr} {xs : List V} {g : TG} {tb : TS} {D : Ends} {σ : St} {H : Hp} (Pv : Nat -> St -> Hp -> Prop) (h0 : Pv 0 σ H) (hl : ∀ i σ H, i <= xs.length -> Pv i σ H -> SqL K H a xs)
  (hs : ∀ i x t σ H, xs[i]? = some x -> Pv i σ H -> H t = none -> g (.ref t) σ (upd H t (.tup [.int i, x])) fun σ2 H2 => tb { D with nx := Pv (i + 1), ct := Pv (i + 1), bk := D.nx } σ2 H2) (hd : ∀ σ H, Pv xs.length σ H -> D.nx σ H) :
  ∃ W : Nat -> Nat -> St -> Hp -> Prop, (∃ m, W 0 m σ H) /\ ∀ i m σ H, W i m σ H →
   ((Itn K a).stop i H /\ D.nx σ H) \/ ((Itn K a).go i H /\ ∃ N : St -> Hp -> Prop, (∀ σ' H', N σ' H' -> ∃ m', m' < m /\ W (i + 1) m' σ' H') /\ ∀ x H', (Itn K a).yld i H x H' -> g x σ H' fun σ2 H2 => tb { D with nx := N, ct := N, bk := D.nx } σ2 H2) := by
 refine ⟨fun i m σ H => m + i = xs.length /\ Pv i σ H, ⟨xs.length, rfl, h0⟩, ?_⟩
 rintro i m σ H ⟨e, p⟩
 have q := hl i σ H (by (first | lia | omega)) p
 rcases Nat.eq_zero_or_pos m with rfl | pm
 ·have e' : i = xs.length := by (first | lia | omega)
  subst e'
  exact .inl ⟨⟨xs, q, Nat.le_refl _⟩, hd σ H p⟩
 ·have i1 : i < xs.length := by (first | lia | omega)
  refine .inr ⟨⟨xs, xs[i], q, by simp [i1]⟩, Pv (i + 1), fun σ' H' p' => ⟨m - 1, by (first | lia | omega), by (first | lia | omega), p'⟩, ?_⟩
  rintro x H' ⟨t, u, rfl, ht, rfl, y⟩
  exact hs i u t σ _ (y xs q) p ht
theorem iteNN' {a b : V} {A B : Prop} (n : a ≠ b) (h : A) : if (!decide (a = b)) = true then A else B := by
 rw [decide_eq_false n, Bool.not_false, if_pos rfl]; exact h
theorem hu3_of {A : Around} {k : Nat} (hr : Room k A) : A.units + 3 < cLine := Nat.lt_of_le_of_lt (Nat.add_le_add_left (by decide : 3 <= 64) _) hr.units
theorem LsH.sameL {H H' : Hp} (s : Same H H') {rs : List Addr} {Ls : List (List Int)} (h : LsH H rs Ls) : LsH H' rs Ls := by
 induction h with
 | nil => exact .nil
 | cons a _ ih => exact .cons (s _ _ a) ih
end L2
namespace K29
open PySem L2 PyProof.Rows
section
variable {P : Program} {w : World} {K : W.Frag} {mg : Str -> Option Value} {base : Heap} {C : Addr}
noncomputable def Nums (kvs : List (Key × V)) (Gs : List (List Int)) : Prop := ∀ (k : Nat) (G : List Int) (x : Int), Gs[k]? = some G -> x ∈ G -> valV kvs (.inl x) = some (.int k)
noncomputable def spNums : Sp := fun vs H Q _ => ∃ (g : Addr) (gs : List Addr) (Gs : List (List Int)), vs = [.ref g] /\ H g = some (.lst (gs.map V.ref)) /\ LsH H gs Gs /\ Gs.flatten.Nodup /\ Gs.length <= 24 /\ Gs.flatten.length <= 24 ∧
 ∀ (d : Addr) (kvs : List (Key × V)) (H' : Hp), H d = none -> Same H H' -> H' d = some (.dK kvs) -> Nums kvs Gs -> Q (.ref d) H'
noncomputable abbrev nmNu : List Str := ["groups", "numbers", "number", "group", "point"]
theorem scNums : FnScope nmNu ["groups"] (defScope sNums) := ⟨rfl, rfl, rfl, by decide +kernel, rfl, by decide +kernel, by decide +kernel⟩
theorem flat_at {Gs : List (List Int)} (nd : Gs.flatten.Nodup) {i k : Nat} {G G' : List Int} {x : Int} (e : Gs[i]? = some G) (e' : Gs[k]? = some G') (h : x ∈ G) (h' : x ∈ G') : i = k := by
 induction Gs generalizing i k with
 | nil => simp at e
 | cons D Gs ih =>
  rw [List.flatten_cons, List.nodup_append] at nd
  cases i with
  | zero =>
   cases k with
   | zero => rfl
   | succ k =>
    cases (Option.some.inj e)
    exact absurd rfl (nd.2.2 x h x (List.mem_flatten.mpr ⟨G', List.mem_of_getElem? (show Gs[k]? = some G' from e'), h'⟩))
  | succ i =>
   cases k with
   | zero =>
    cases (Option.some.inj e')
    exact absurd rfl (nd.2.2 x h' x (List.mem_flatten.mpr ⟨G, List.mem_of_getElem? (show Gs[i]? = some G from e), h⟩))
   | succ k => rw [ih nd.2.1 (show Gs[i]? = some G from e) (show Gs[k]? = some G' from e')]
theorem ok_nums {f : Addr} {fd : FuncData} (F : Fun K "numbers_of" "numbers_of" sNums f fd) (genum : mg "enumerate" = none) : FnOk P w K mg base CX0 1 f fd ["groups"] spNums := by
 refine F.ok scNums (fun vs H Q E h => ?_) (fun cdv A outer s H vs Q E hr h => ?_)
 ·obtain ⟨g, gs, Gs, rfl, _⟩ := h
  rfl
 ·obtain ⟨g, gs, Gs, rfl, hg, hG, nd, lG, lF, hQ⟩ := h
  have hu := hu_of hr
  refine' ⟨_, pss_cons (ps_set (i := 1) scNums.nd rfl (Or.inl rfl) pe_dnewK) (pss_cons ?s1 (pss_one (ps_ret (pv 1)))), ?_⟩
  case s1 => exact ps_for PassesOwn.never rfl (pi_enum rfl genum (pa_cons (pv 0) pa_nil)) (pg_tup rfl (pgs_cons (pg_name (i := 2) scNums.nd rfl (Or.inl rfl)) (pgs_cons (pg_name (i := 3) scNums.nd rfl (Or.inl rfl)) pgs_nil))) (pss_one (ps_for PassesOwn.never rfl (pi_list (pv 3)) (pg_name (i := 4) scNums.nd rfl (Or.inl rfl)) (pss_one (ps_dput hu (pv 1) (pv 4) (pv 2) rfl))))
  have lr := Paired.length hG
  intro d ndd
  have s1 : Same H (upd H d (.dK [])) := Same.new ndd
  have hd1 : upd H d (.dK []) d = some (.dK []) := upd_same
  dsimp only [gName, List.set_cons_succ, List.set_cons_zero]
  generalize upd H d (.dK []) = H1 at s1 hd1 ⊢
  have lenF : ∀ i, i <= Gs.length -> ((Gs.take i).flatten).length <= 24 := fun i _ => by
   have : (Gs.take i).flatten.length <= Gs.flatten.length := by
    conv => rhs; rw [<- List.take_append_drop i Gs, List.flatten_append, List.length_append]
    (first | lia | omega)
   (first | lia | omega)
  refine ⟨_, rfl, g, rfl, ⟨_, SqL.of (s1 g _ hg)⟩, for_enum (K := K) (a := g) (xs := gs.map V.ref)
   (fun i σ H5 => ∃ (kvs : List (Key × V)) (e2 e3 e4 : Option V), σ = [some (.ref g), some (.ref d), e2, e3, e4] /\ Same H H5 /\ H5 d = some (.dK kvs) /\ (∀ (k : Nat) (G : List Int) (x : Int), k < i -> Gs[k]? = some G -> x ∈ G -> valV kvs (.inl x) = some (.int k)) /\ kvs.length <= ((Gs.take i).flatten).length)
   ⟨[], none, none, none, rfl, s1, hd1, fun k G x hk => absurd hk (Nat.not_lt_zero _), Nat.le_refl _⟩ (fun i σ H5 _ h5 => by obtain ⟨_, _, _, _, _, s5, _⟩ := h5; exact SqL.of (s5 g _ hg)) ?_ ?_⟩
  ·rintro i x t σ H5 hi ⟨kvs, e2, e3, e4, rfl, s5, hd5, nm, lk⟩ nt
   rw [List.getElem?_map] at hi
   refine gz9 fun _ bk0 => ?_
   obtain ⟨r, er, rfl⟩ := Option.map_eq_some_iff.mp hi
   obtain ⟨G, eG, hr0⟩ := Sx.pair_at (i := i) (a := r) hG er
   refine bk0 ?_
   have hil : i < Gs.length := (List.getElem?_eq_some_iff.mp eG).1
   have s6 : Same H5 (upd H5 t (.tup [.int i, .ref r])) := Same.new nt
   have ht6 : upd H5 t (.tup [.int i, .ref r]) t = some (.tup [.int i, .ref r]) := upd_same
   generalize upd H5 t (.tup [.int i, .ref r]) = H6 at s6 ht6 ⊢
   refine ⟨t, _, rfl, SqT.of ht6, rfl, _, _, rfl, _, _, rfl, rfl, ?_⟩
   dsimp only [gName, List.set_cons_succ, List.set_cons_zero]
   have s06 := s5.trans s6
   have hr6 := s06 r _ hr0
   have etk : (Gs.take (i + 1)).flatten = (Gs.take i).flatten ++ G := by rw [List.take_succ, eG, List.flatten_append]; simp
   have lf := lenF (i + 1) hil
   rw [etk, List.length_append] at lf
   refine ⟨_, rfl, r, rfl, ⟨_, SqL.of hr6⟩, for_list (K := K) (a := r) (xs := G.map V.int)
    (fun j σ H7 => ∃ (kv : List (Key × V)) (e4 : Option V), σ = [some (.ref g), some (.ref d), some (.int i), some (.ref r), e4] /\ Same H H7 /\ H7 d = some (.dK kv) /\ (∀ (k : Nat) (G' : List Int) (x : Int), k < i -> Gs[k]? = some G' -> x ∈ G' -> valV kv (.inl x) = some (.int k)) /\ (∀ x ∈ G.take j, valV kv (.inl x) = some (.int i)) /\ kv.length <= ((Gs.take i).flatten).length + j /\ j <= G.length)
    ⟨kvs, e4, rfl, s06, s6 d _ hd5, nm, fun x hx => (nomatch hx), lk, Nat.zero_le _⟩ (fun j σ H7 _ h7 => by obtain ⟨_, _, _, s7, _⟩ := h7; exact SqL.of (s7 r _ hr0)) ?_ ?_⟩
   ·rintro j v σ H7 hj ⟨kv, e4, rfl, s7, hd7, nm7, cur, lk7, lj⟩
    obtain ⟨y, rfl, ey⟩ := map_int_at hj
    have hjl : j < G.length := (List.getElem?_eq_some_iff.mp ey).1
    have hy : y ∈ G := List.mem_of_getElem? ey
    have lp := length_putK kv (.inl y : Key) (.int i)
    dsimp only [gName, List.set_cons_succ, List.set_cons_zero]
    refine ⟨_, rfl, _, rfl, _, rfl, d, _, rfl, DPut.k (k := Sum.inl y) hd7 (small1000 (by (first | lia | omega))), ?_⟩
    refine ⟨_, _, rfl, fun b o e => by rw [upd_ne (ne_of_none e ndd)]; exact s7 b o e, upd_same, fun k G' x hk eG' hx => ?_, fun x hx => ?_, by (first | lia | omega), hjl⟩
    ·rw [valV_put, if_neg fun z => ?_]
     ·exact nm7 k G' x hk eG' hx
     ·injection z with z
      subst z
      have := flat_at nd eG' eG hx hy
      (first | lia | omega)
    ·rw [valV_put]
     rw [List.take_succ, ey] at hx
     by_cases c : x = y
     ·rw [if_pos (by rw [c])]
     ·rw [if_neg fun z => c (by injection z)]
      rcases List.mem_append.mp hx with hx | hx
      ·exact cur x hx
      ·exact absurd (List.mem_singleton.mp hx) c
   ·rintro σ H7 ⟨kv, e4, rfl, s7, hd7, nm7, cur, lk7, lj⟩
    rw [List.length_map] at cur lk7
    rw [List.take_length] at cur
    refine ⟨kv, _, _, _, rfl, s7, hd7, fun k G' x hk eG' hx => ?_, by rw [etk, List.length_append]; exact lk7⟩
    rcases Nat.lt_or_ge k i with c | c
    ·exact nm7 k G' x c eG' hx
    ·have e : k = i := by (first | lia | omega)
     subst e
     rw [eG] at eG'
     cases eG'
     exact cur x hx
  ·rintro σ H5 ⟨kvs, e2, e3, e4, rfl, s5, hd5, nm, lk⟩
   rw [List.length_map, lr] at nm
   exact ⟨_, rfl, hQ d kvs H5 ndd s5 hd5 fun k G x eG hx => nm k G x (List.getElem?_eq_some_iff.mp eG).1 eG hx⟩
noncomputable def val3 (H : Hp) (v : V) (row : List Int) : Prop := ∃ (r p : Addr) (n a b : Int), v = .ref r /\ row = [n, a, b] /\ H r = some (.tup [.int n, .ref p]) /\ H p = some (.tup ([a, b].map V.int))
theorem val3.same {H H' : Hp} (s : Same H H') {v : V} {row : List Int} (h : val3 H v row) : val3 H' v row := by
 refine gz9 fun _ bk0 => ?_
 obtain ⟨r, p, n, a, b, e, e', h1, h2⟩ := h
 refine bk0 ?_
 exact ⟨r, p, n, a, b, e, e', s _ _ h1, s _ _ h2⟩
noncomputable def spBtw (C : Addr) : Sp := fun vs H Q _ => ∃ (x dn : Addr) (m : Int) (T : List Mt.Tri) (ks : List (List Int)) (U : List Mt.Tri) (nums : List (Key × V)) (N : Int -> Int), vs = [.ref x, .ref dn] /\ WebAt C H x m T ks /\ tis T ks = U.map Mt.tri /\ U.length <= 300 /\ H dn = some (.dK nums) /\ (∀ t ∈ U, valV nums (.inl t.1) = some (.int (N t.1)) /\ valV nums (.inl t.2.1) = some (.int (N t.2.1))) ∧
 ∀ (d : Addr) (kvs : List (List Key × V)) (H' : Hp), H d = none -> Same H H' -> H' d = some (.dT kvs) -> Dr.Lst (val3 H') N U kvs -> kvs.length <= U.length -> Q (.ref d) H'
noncomputable abbrev nmB : List Str := ["web", "numbers", "least", "a", "b", "weight", "source", "found", "ends"]
theorem scBtw : FnScope nmB ["web", "numbers"] (defScope sBtw) := ⟨rfl, rfl, rfl, by decide +kernel, rfl, by decide +kernel, by decide +kernel⟩
theorem tri_at {H : Hp} {rs : List Addr} {T : List Mt.Tri} {i : Nat} {y : V} (h : TupsH H rs (T.map Mt.tri)) (e : (rs.map V.ref)[i]? = some y) : ∃ r u, y = .ref r /\ T[i]? = some u /\ H r = some (.tup ((Mt.tri u).map V.int)) := by
 refine gz9 fun _ bk0 => ?_
 obtain ⟨r, t, rfl, et, hr⟩ := tup_at h e
 refine bk0 ?_
 rw [List.getElem?_map] at et
 cases z : T[i]? with
 | none => rw [z] at et; cases et
 | some u => rw [z] at et; cases et; exact ⟨r, u, rfl, rfl, hr⟩
noncomputable def tSrc : TS := fun D σ H => ∃ (dn : Addr) (nums : List (Key × V)) (x y nx ny : Int) (e0 e2 e5 e6 e7 e8 : Option V), σ = [e0, some (.ref dn), e2, some (.int x), some (.int y), e5, e6, e7, e8] /\ H dn = some (.dK nums) /\ valV nums (.inl x) = some (.int nx) /\ valV nums (.inl y) = some (.int ny) ∧
 ∀ (p : Addr) (H' : Hp), H p = none -> Same H H' -> H' p = some (.tup ((if nx < ny then [x, y] else [y, x]).map V.int)) -> D.nx [e0, some (.ref dn), e2, some (.int x), some (.int y), e5, some (.ref p), e7, e8] H'
noncomputable abbrev inFor (st : Stmt) (i : Nat) : Stmt := match st with | .For _ _ b _ _ => b.getD i (.Pass ⟨0, 0, 0, 0⟩) | _ => .Pass ⟨0, 0, 0, 0⟩
noncomputable abbrev inIf (st : Stmt) (i : Nat) : Stmt := match st with | .If _ b _ _ => b.getD i (.Pass ⟨0, 0, 0, 0⟩) | _ => .Pass ⟨0, 0, 0, 0⟩
theorem dgK {H : Hp} {d : Addr} {kvs : List (Key × V)} {x n : Int} (h : H d = some (.dK kvs)) (e : valV kvs (.inl x) = some (.int n)) : DGet H d (.int x) (some (.int n)) := by
 have := DGet.k (k := (.inl x : Key)) h
 rw [e] at this
 exact this
theorem ok_src {f : Addr} {cdv : Value} {A : Around} {outer : List Env} {s : Shared} {H : Hp} {E : XK} (hu : (cxOf CX0 P w K mg base nmB "heaviest_between" (defScope sBtw) f cdv A outer s H E).nox.A.units + 1 < cLine) : PS (cxOf CX0 P w K mg base nmB "heaviest_between" (defScope sBtw) f cdv A outer s H E).nox (inIf (inFor ((defBody sBtw).getD 1 (.Pass ⟨0, 0, 0, 0⟩)) 0) 0) tSrc := by
 refine PS.imp (t' := tSrc) (ps_set (i := 6) scBtw.nd rfl (Or.inl rfl) (pe_ifExp (pt_cmpR op_lt (pe_dget hu (pv 1) (pv 3) (fun _ _ => rfl)) (pe_dget hu (pv 1) (pv 4) (fun _ _ => rfl)) (nomark _)) (pe_tup (pa_cons (pv 3) (pa_cons (pv 4) pa_nil))) (pe_tup (pa_cons (pv 4) (pa_cons (pv 3) pa_nil))))) ?_
 rintro D σ H1 ⟨dn, nums, x, y, nx, ny, e0, e2, e5, e6, e7, e8, rfl, hdn, vx, vy, k⟩
 refine ⟨_, rfl, _, rfl, dn, _, rfl, dgK hdn vx, _, rfl, _, rfl, dn, _, rfl, dgK hdn vy, _, _, rfl, rfl, _, rfl, ?_⟩
 refine ite2 (fun c => ?_) (fun c => ?_)
 ·have c' : nx < ny := of_decide_eq_true c
  refine ⟨_, rfl, _, rfl, (by show 2 <= sizeLine; decide), fun p np => ?_⟩
  dsimp only [gName, List.set_cons_succ, List.set_cons_zero]
  exact k p _ np (Same.new np) (by rw [upd_same, if_pos c']; rfl)
 ·have c' : ¬ nx < ny := fun z => c (decide_eq_true z)
  refine ⟨_, rfl, _, rfl, (by show 2 <= sizeLine; decide), fun p np => ?_⟩
  dsimp only [gName, List.set_cons_succ, List.set_cons_zero]
  exact k p _ np (Same.new np) (by rw [upd_same, if_neg c']; rfl)
theorem ok_btw {f fT fO C : Addr} {fd fdT fdO : FuncData} (F : Fun K "heaviest_between" "heaviest_between" sBtw f fd) (T0 : TxtW K mg C) (gmin : mg "min" = none)
  (mT : Meth K C "ties" fT) (GT : FnOk P w K mg base CX0 1 fT fdT ["self"] (spTies C)) (bT : Binds K fdT ["self"] [])
  (GO : FnOk P w K mg base CX0 1 fO fdO ["a", "b"] spOrd) (mO : mg "ordered" = some (.ref fO)) (kO : PySem.W.keepIn K (.ref fO) = true) (bO : Binds K fdO ["a", "b"] []) : FnOk P w K mg base CX0 2 f fd ["web", "numbers"] (spBtw C) := by
 refine F.ok scBtw (fun vs H Q E h => ?_) (fun cdv A outer s H vs Q E hr h => ?_)
 ·obtain ⟨x, dn, m, T, ks, U, nums, N, rfl, _⟩ := h
  rfl
 ·obtain ⟨x, dn, m, T, ks, U, nums, N, rfl, W, eU, lU, hdn, hN, hQ⟩ := h
  have hu := hu_of hr
  have hu3 := hu3_of hr
  refine' ⟨_, pss_cons (ps_set (i := 2) scBtw.nd rfl (Or.inl rfl) pe_dnewT) (pss_cons ?s1 (pss_one (ps_ret (pv 2)))), ?_⟩
  case s1 =>
   refine' ps_for PassesOwn.never rfl (pi_list (pe_meth0 (pv 0) T0.cl mT GT hr bT .nil pass0)) (pg_tup (n := 3) rfl (pgs_cons (pg_name (i := 3) scBtw.nd rfl (Or.inl rfl)) (pgs_cons (pg_name (i := 4) scBtw.nd rfl (Or.inl rfl)) (pgs_cons (pg_name (i := 5) scBtw.nd rfl (Or.inl rfl)) pgs_nil)))) (pss_one (ps_if (pt_cmpR op_ne (pe_dget hu (pv 1) (pv 3) (fun _ _ => rfl)) (pe_dget hu (pv 1) (pv 4) (fun _ _ => rfl)) (nomark _)) (pss_cons (ok_src hu) (pss_cons ?c1 (pss_cons ?c2 (pss_one ?c3)))) pss_nil))
   case c1 => exact ps_set (i := 7) scBtw.nd rfl (Or.inl rfl) (pe_tup (pa_cons (pe_un un_neg (pv 5)) (pa_cons (pv 6) pa_nil)))
   case c2 => exact ps_set (i := 8) scBtw.nd rfl (Or.inl rfl) (pe_call GO hr (by rfl) mO kO bO .nil pass0 (pa_cons (pe_dget hu (pv 1) (pv 3) (fun _ _ => rfl)) (pa_cons (pe_dget hu (pv 1) (pv 4) (fun _ _ => rfl)) pa_nil)))
   case c3 => exact ps_dput hu (pv 2) (pv 8) (pe_callB (call_minN rfl hu3) (by rfl) gmin boot_min (pa_cons (pe_dget2 hu (pv 2) (pv 8) (pv 7) ⟨rfl, rfl, rfl, rfl⟩) (pa_cons (pv 7) pa_nil))) rfl
  intro d ndd
  have s1 : Same H (upd H d (.dT [])) := Same.new ndd
  have hd1 : upd H d (.dT []) d = some (.dT []) := upd_same
  dsimp only [gName, List.set_cons_succ, List.set_cons_zero]
  generalize upd H d (.dT []) = H1 at s1 hd1 ⊢
  have W1 := W.same s1
  refine gz9 fun _ bk0 => ?_
  obtain ⟨dx, _, _, _, fs, _, w1, _, _, _, _, w6, _⟩ := W1.ex
  refine bk0 ?_
  refine ⟨_, rfl, x, dx, fs, rfl, w1, w6.2.1, x, m, T, ks, rfl, W1, fun q qs nq hqs => ?_⟩
  rw [eU] at hqs
  have lqs := Paired.length hqs
  rw [List.length_map] at lqs
  have s2 : Same H1 (upd H1 q (.lst (qs.map V.ref))) := Same.new nq
  have hq2 : upd H1 q (.lst (qs.map V.ref)) q = some (.lst (qs.map V.ref)) := upd_same
  generalize upd H1 q (.lst (qs.map V.ref)) = H2 at s2 hq2 ⊢
  have hd2 := s2 d _ hd1
  have hqs2 := TupsH.same s2 hqs
  have s02 := s1.trans s2
  have nqd : q ≠ d := (ne_of_none hd1 nq).symm
  have hdn2 := s02 dn _ hdn
  have ndn : dn ≠ d := ne_of_none hdn ndd
  refine ⟨q, rfl, ⟨_, SqL.of hq2⟩, for_list (K := K) (a := q) (xs := qs.map V.ref)
   (fun i σ H5 => ∃ (kvs : List (List Key × V)) (e3 e4 e5 e6 e7 e8 : Option V), σ = [some (.ref x), some (.ref dn), some (.ref d), e3, e4, e5, e6, e7, e8] /\ (∀ b o, H2 b = some o -> b ≠ d -> H5 b = some o) /\ H5 d = some (.dT kvs) /\ Dr.Lst (val3 H5) N (U.take i) kvs /\ kvs.length <= i)
   ⟨[], none, none, none, none, none, none, rfl, fun b o e _ => e, hd2, Dr.Lst.nil, Nat.le_refl _⟩ (fun i σ H5 _ h5 => by obtain ⟨_, _, _, _, _, _, _, _, fr, _⟩ := h5; exact SqL.of (fr q _ hq2 nqd)) ?_ ?_⟩
  ·rintro i y σ H5 hi ⟨kvs, e3, e4, e5, e6, e7, e8, rfl, fr, hd5, L, lk⟩
   refine gz9 fun _ bk0 => ?_
   obtain ⟨r, u, rfl, eu, hr2⟩ := tri_at hqs2 hi
   have hr5 := fr r _ hr2 (ne_of hr2 hd2 (by intro z; cases z))
   have hil : i < U.length := (List.getElem?_eq_some_iff.mp eu).1
   obtain ⟨va, vb⟩ := hN u (List.mem_of_getElem? eu)
   obtain ⟨a, b, wg⟩ := u
   refine bk0 ?_
   have va : valV nums (.inl a) = some (.int (N a)) := va
   have vb : valV nums (.inl b) = some (.int (N b)) := vb
   have hdn5 := fr dn _ hdn2 ndn
   have etk : U.take (i + 1) = U.take i ++ [(a, b, wg)] := by rw [List.take_succ, eu]; rfl
   refine ⟨r, _, rfl, SqT.of hr5, rfl, _, _, rfl, _, _, rfl, _, _, rfl, rfl, ?_⟩
   dsimp only [gName, List.set_cons_succ, List.set_cons_zero]
   refine ⟨_, rfl, _, rfl, dn, _, rfl, dgK hdn5 va, _, rfl, _, rfl, dn, _, rfl, dgK hdn5 vb, rfl, _, rfl, ?_⟩
   by_cases c : N a = N b
   ·refine iteNS (congrArg V.int c) ⟨kvs, _, _, _, _, _, _, rfl, fr, hd5, ?_, by (first | lia | omega)⟩
    rw [etk]
    refine L.skip ?_
    unfold Dr.rowK
    rw [if_pos c]
   refine iteNN' (fun z => c (by injection z)) ?_
   refine ⟨dn, nums, a, b, N a, N b, _, _, _, _, _, _, rfl, hdn5, va, vb, fun p H6 np s6 hp6 => ?_⟩
   obtain ⟨k, sa, sb, ek, es, er⟩ : ∃ (k : List Int) (sa sb : Int), [Mt.lo (N a) (N b), Mt.hi (N a) (N b)] = k /\ (if N a < N b then [a, b] else [b, a]) = [sa, sb] /\ Dr.rowK N (a, b, wg) = some (k, [-wg, sa, sb]) := by
    unfold Dr.rowK
    rw [if_neg c]
    by_cases l : N a < N b
    ·refine ⟨_, a, b, rfl, if_pos l, ?_⟩
     rw [if_pos l]
     have : Mt.lo (N a) (N b) = N a /\ Mt.hi (N a) (N b) = N b := by unfold Mt.lo Mt.hi; constructor <;> split <;> (first | lia | omega)
     rw [this.1, this.2]
    ·refine ⟨_, b, a, rfl, if_neg l, ?_⟩
     rw [if_neg l]
     have : Mt.lo (N a) (N b) = N b /\ Mt.hi (N a) (N b) = N a := by unfold Mt.lo Mt.hi; constructor <;> split <;> (first | lia | omega)
     rw [this.1, this.2]
   rw [es] at hp6
   refine ⟨_, rfl, _, rfl, _, rfl, (by show 2 <= sizeLine; decide), fun pf npf => ?_⟩
   have s7 : Same H6 (upd H6 pf (.tup [.int (-wg), .ref p])) := Same.new npf
   have hf7 : upd H6 pf (.tup [.int (-wg), .ref p]) pf = some (.tup [.int (-wg), .ref p]) := upd_same
   dsimp only [gName, List.set_cons_succ, List.set_cons_zero]
   generalize upd H6 pf (.tup [.int (-wg), .ref p]) = H7 at s7 hf7 ⊢
   have s57 := s6.trans s7
   have hdn7 := s57 dn _ hdn5
   refine ⟨_, rfl, _, rfl, dn, _, rfl, dgK hdn7 va, _, rfl, _, rfl, dn, _, rfl, dgK hdn7 vb, N a, N b, rfl, fun pe npe => ?_⟩
   have s8 : Same H7 (upd H7 pe (.tup [.int (Mt.lo (N a) (N b)), .int (Mt.hi (N a) (N b))])) := Same.new npe
   have he8 : upd H7 pe (.tup [.int (Mt.lo (N a) (N b)), .int (Mt.hi (N a) (N b))]) pe = some (.tup ((k.map Sum.inl).map kV)) := by rw [upd_same, <- ek]; rfl
   dsimp only [gName, List.set_cons_succ, List.set_cons_zero]
   generalize upd H7 pe (.tup [.int (Mt.lo (N a) (N b)), .int (Mt.hi (N a) (N b))]) = H8 at s8 he8 ⊢
   have s58 := s57.trans s8
   have hd8 := s58 d _ hd5
   have hf8 := s8 pf _ hf7
   have hp8 := (s7.trans s8) p _ hp6
   have L8 : Dr.Lst (val3 H8) N (U.take i) kvs := L.imp fun v r => val3.same s58
   have vf : val3 H8 (.ref pf) [-wg, sa, sb] := ⟨pf, p, -wg, sa, sb, rfl, rfl, hf8, hp8⟩
   have lp := fun v => length_putK kvs (k.map Sum.inl) v
   have fin : ∀ (v : V) (row : List Int), val3 H8 v row -> Dr.IsMin N (U.take i ++ [(a, b, wg)]) k row -> ∃ (kvs' : List (List Key × V)) (e3 e4 e5 e6 e7 e8 : Option V), [some (V.ref x), some (.ref dn), some (.ref d), some (.int a), some (.int b), some (.int wg), some (.ref p), some (.ref pf), some (.ref pe)] = [some (.ref x), some (.ref dn), some (.ref d), e3, e4, e5, e6, e7, e8] /\ (∀ b o, H2 b = some o -> b ≠ d -> upd H8 d (.dT (putK kvs (k.map Sum.inl) v)) b = some o) /\ upd H8 d (.dT (putK kvs (k.map Sum.inl) v)) d = some (.dT kvs') /\ Dr.Lst (val3 (upd H8 d (.dT (putK kvs (k.map Sum.inl) v)))) N (U.take (i + 1)) kvs' /\ kvs'.length <= i + 1 := fun v row hv hm => by
    refine ⟨_, _, _, _, _, _, _, rfl, fun b o e nb => by rw [upd_ne nb]; exact s58 b o (fr b o e nb), upd_same, ?_, by have := lp v; (first | lia | omega)⟩
    rw [etk]
    refine (L8.put er hv hm).imp fun v r h => ?_
    refine gz9 fun _ bk0 => ?_
    obtain ⟨r', p', n', a', b', q1, q2, q3, q4⟩ := h
    refine bk0 ?_
    exact ⟨r', p', n', a', b', q1, q2, by rw [upd_ne (ne_of q3 hd8 (by intro z; cases z))]; exact q3, by rw [upd_ne (ne_of q4 hd8 (by intro z; cases z))]; exact q4⟩
   cases ev : valV kvs (k.map Sum.inl) with
   | none =>
    refine ⟨_, rfl, d, rfl, .inr ⟨kvs, .inl hd8⟩, _, rfl, _, rfl, _, DGet.t (k := k.map Sum.inl) hd8 he8, _, rfl, ?_⟩
    rw [ev]
    refine ⟨pf, pf, p, p, -wg, -wg, [sa, sb], [sa, sb], rfl, hf8, hf8, hp8, hp8, _, rfl, _, rfl, d, _, rfl, DPut.t (k := k.map Sum.inl) hd8 he8 (small1000 (by (first | lia | omega))), ?_⟩
    have e1 : (if ltN (-wg) [sa, sb] (-wg) [sa, sb] = true then pf else pf) = pf := by split <;> rfl
    rw [e1]
    exact fin _ _ vf (Dr.IsMin.first er fun u hu v => L8.none k ev u hu v)
   | some v =>
    refine gz9 fun _ bk0 => ?_
    obtain ⟨row, hv, hm⟩ := L8.some k v ev
    obtain ⟨r', p', n', a', b', rfl, rfl, hr', hp'⟩ := id hv
    refine bk0 ?_
    refine ⟨_, rfl, d, rfl, .inr ⟨kvs, .inl hd8⟩, _, rfl, _, rfl, _, DGet.t (k := k.map Sum.inl) hd8 he8, _, rfl, ?_⟩
    rw [ev]
    refine ⟨r', pf, p', p, n', -wg, [a', b'], [sa, sb], rfl, hr', hf8, hp', hp8, _, rfl, _, rfl, d, _, rfl, DPut.t (k := k.map Sum.inl) hd8 he8 (small1000 (by (first | lia | omega))), ?_⟩
    cases lt : ltN (-wg) [sa, sb] n' [a', b'] with
    | true =>
     rw [if_pos rfl]
     exact fin _ _ vf (hm.less er lt)
    | false =>
     rw [if_neg Bool.false_ne_true]
     exact fin _ _ hv (hm.stay er lt)
  ·rintro σ H5 ⟨kvs, e3, e4, e5, e6, e7, e8, rfl, fr, hd5, L, lk⟩
   rw [List.length_map] at lk L
   rw [lqs, List.take_length] at L
   exact ⟨_, rfl, hQ d kvs H5 ndd (fun b o e => fr b o (s02 b o e) (ne_of_none e ndd)) hd5 L (by (first | lia | omega))⟩
end
end K29
namespace Mt
theorem scan_okA {m : Int} : ∀ {T : List Tri} {seen : List (List Int)}, (seen ++ T.map key).Nodup -> (∀ t ∈ T, ¬ bad m t.1 t.2.1) -> scan m T seen = .good
 | [], _, _, _ => rfl
 | t :: T, seen, nd, h => by
  have hb := h t (.head _)
  have hs : key t ∉ seen := fun z => by
   rw [List.map_cons, List.nodup_append] at nd
   exact nd.2.2 _ z _ (.head _) rfl
  unfold scan
  rw [if_neg hb, if_neg (by rw [List.any_eq_true]; rintro ⟨k, hk, e⟩; have e := of_decide_eq_true e; exact hs (e ▸ hk))]
  refine scan_okA ?_ fun u hu => h u (.tail _ hu)
  rw [List.append_assoc]
  exact nd
end Mt
namespace Dr
open L2
theorem none_of {H H' : Hp} {D : PySem.Addr} (s : Same H H') (h : H' D = none) : H D = none := by
 cases e : H D with
 | none => rfl
 | some o => rw [s D o e] at h; cases h
open Classical in
noncomputable def rowOf (N : Int -> Int) (T : List Mt.Tri) (k : List Int) : List Int := if h : ∃ r, IsMin N T k r then Classical.choose h else []
theorem rowOf_eq {N : Int -> Int} {T : List Mt.Tri} {k r : List Int} (h : IsMin N T k r) : rowOf N T k = r := by
 have e : ∃ r, IsMin N T k r := ⟨r, h⟩
 unfold rowOf
 rw [dif_pos e]
 exact (Classical.choose_spec e).uniq h
noncomputable def numOf (Gs : List (List Int)) (x : Int) : Int := (Gs.findIdx fun G => decide (x ∈ G) : Nat)
theorem num_at {Gs : List (List Int)} (nd : Gs.flatten.Nodup) {k : Nat} {G : List Int} {x : Int} (e : Gs[k]? = some G) (h : x ∈ G) : numOf Gs x = k := by
 unfold numOf
 have hl : (Gs.findIdx fun G => decide (x ∈ G)) < Gs.length := List.findIdx_lt_length_of_exists ⟨G, List.mem_of_getElem? e, decide_eq_true h⟩
 have hx := of_decide_eq_true (List.findIdx_getElem (w := hl))
 rw [K29.flat_at nd (List.getElem?_eq_getElem hl) e hx h]
theorem num_lt {Gs : List (List Int)} (nd : Gs.flatten.Nodup) {x : Int} (h : x ∈ Gs.flatten) : 0 <= numOf Gs x /\ numOf Gs x < (Gs.length : Int) := by
 refine gz9 fun _ bk0 => ?_
 obtain ⟨G, hG, hx⟩ := List.mem_flatten.mp h
 obtain ⟨k, hk, e⟩ := List.getElem_of_mem hG
 refine bk0 ?_
 have := num_at nd (k := k) (G := G) (by rw [List.getElem?_eq_getElem hk, e]) hx
 (first | lia | omega)
structure Sld (N : Int -> Int) (U : List Mt.Tri) (ks : List (List Int)) : Prop where
 srt : ks.Pairwise fun a b => HT.lexLt b a = false
 nd : ks.Nodup
 mem : ∀ k, k ∈ ks ↔ ∃ t ∈ U, ∃ w, rowK N t = some (k, w)
 min : ∀ k ∈ ks, IsMin N U k (rowOf N U k)
noncomputable def tieOf (N : Int -> Int) (U : List Mt.Tri) (k : List Int) : Mt.Tri := (k.getD 0 0, k.getD 1 0, -(rowOf N U k).getD 0 0)
theorem rowK_two {N : Int -> Int} {t : Mt.Tri} {k w : List Int} (h : rowK N t = some (k, w)) : ∃ i j a b, k = [i, j] /\ w = [-t.2.2, a, b] /\ i < j /\ ((i = N t.1 /\ j = N t.2.1) \/ (i = N t.2.1 /\ j = N t.1)) := by
 unfold rowK at h
 by_cases c : N t.1 = N t.2.1
 ·rw [if_pos c] at h; exact nomatch h
 ·rw [if_neg c] at h
  by_cases d : N t.1 < N t.2.1
  ·rw [if_pos d] at h
   cases h
   exact ⟨_, _, _, _, rfl, rfl, d, .inl ⟨rfl, rfl⟩⟩
  ·rw [if_neg d] at h
   cases h
   exact ⟨_, _, _, _, rfl, rfl, by (first | lia | omega), .inr ⟨rfl, rfl⟩⟩
theorem Sld.two {N : Int -> Int} {U : List Mt.Tri} {ks : List (List Int)} (h : Sld N U ks) {k : List Int} (hk : k ∈ ks) : ∃ i j n a b, k = [i, j] /\ i < j /\ rowOf N U k = [n, a, b] /\ ∃ t ∈ U, (i = N t.1 /\ j = N t.2.1) \/ (i = N t.2.1 /\ j = N t.1) := by
 refine gz9 fun _ bk0 => ?_
 obtain ⟨t, ht, e⟩ := (h.min k hk).has
 obtain ⟨i, j, a, b, e1, e2, lt, o⟩ := rowK_two e
 refine bk0 ?_
 exact ⟨i, j, _, a, b, e1, lt, e2, t, ht, o⟩
theorem Sld.uniq {N : Int -> Int} {U U' : List Mt.Tri} {ks ks' : List (List Int)} (h : Sld N U ks) (h' : Sld N U' ks') (p : ∀ t, t ∈ U ↔ t ∈ U') : ks = ks' := by
 refine Mt.sorted_eq ((List.perm_ext_iff_of_nodup h.nd h'.nd).mpr fun k => ?_) h.srt h'.srt
 rw [h.mem, h'.mem]
 constructor
 ·rintro ⟨t, ht, q⟩; exact ⟨t, (p t).mp ht, q⟩
 ·rintro ⟨t, ht, q⟩; exact ⟨t, (p t).mpr ht, q⟩
theorem good_of_sld {Gs : List (List Int)} {U : List Mt.Tri} {ks : List (List Int)} (nd : Gs.flatten.Nodup) (cov : ∀ t ∈ U, t.1 ∈ Gs.flatten /\ t.2.1 ∈ Gs.flatten) (h : Sld (numOf Gs) U ks) : Mt.scan Gs.length (ks.map (tieOf (numOf Gs) U)) [] = .good := by
 have ek : (ks.map (tieOf (numOf Gs) U)).map Mt.key = ks := by
  rw [List.map_map]
  refine (List.map_congr_left fun k hk => ?_).trans (List.map_id _)
  refine gz9 fun _ bk0 => ?_
  obtain ⟨i, j, n, a, b, rfl, lt, _⟩ := h.two hk
  refine bk0 ?_
  show [Mt.lo i j, Mt.hi i j] = [i, j]
  unfold Mt.lo Mt.hi
  rw [if_neg (by (first | lia | omega)), if_pos (by (first | lia | omega))]
 refine Mt.scan_okA (seen := []) (by rw [List.nil_append, ek]; exact h.nd) fun t ht => ?_
 refine gz9 fun _ bk0 => ?_
 obtain ⟨k, hk, rfl⟩ := List.mem_map.mp ht
 obtain ⟨i, j, n, a, b, rfl, lt, _, t, ht, o⟩ := h.two hk
 refine bk0 ?_
 have c := cov t ht
 have n1 := num_lt nd c.1
 have n2 := num_lt nd c.2
 show ¬ (i < 0 \/ (Gs.length : Int) <= i \/ j < 0 \/ (Gs.length : Int) <= j \/ i = j)
 (first | lia | omega)
end Dr
namespace K29
open PySem L2 PyProof.Rows
section
variable {P : Program} {w : World} {K : W.Frag} {mg : Str -> Option Value} {base : Heap} {C : Addr}
structure Grp (H : Hp) (g : Addr) (gs : List Addr) (Gs : List (List Int)) : Prop where
 lst : H g = some (.lst (gs.map V.ref))
 ls : LsH H gs Gs
 nd : Gs.flatten.Nodup
 len : Gs.length <= 24
 all : Gs.flatten.length <= 24
theorem Grp.same {H H' : Hp} {g : Addr} {gs : List Addr} {Gs : List (List Int)} (s : Same H H') (h : Grp H g gs Gs) : Grp H' g gs Gs := ⟨s _ _ h.lst, LsH.sameL s h.ls, h.nd, h.len, h.all⟩
noncomputable def spDrw (C : Addr) : Sp := fun vs H Q _ => ∃ (x g : Addr) (m : Int) (T : List Mt.Tri) (ks : List (List Int)) (U : List Mt.Tri) (gs : List Addr) (Gs : List (List Int)), vs = [.ref x, .ref g] /\ WebAt C H x m T ks /\ tis T ks = U.map Mt.tri /\ U.length <= 280 /\ Grp H g gs Gs /\ (∀ t ∈ U, t.1 ∈ Gs.flatten /\ t.2.1 ∈ Gs.flatten) ∧
 ∀ (q x' ls : Addr) (ks1 ks' : List (List Int)) (ps : List Addr) (H' : Hp), Same H H' -> H' q = some (.tup [.ref x', .ref ls]) -> WebAt C H' x' Gs.length (ks1.map (Dr.tieOf (Dr.numOf Gs) U)) ks' -> H ls = none -> H' ls = some (.lst (ps.map V.ref)) -> TupsH H' ps (ks1.map fun k => (Dr.rowOf (Dr.numOf Gs) U k).drop 1) -> Dr.Sld (Dr.numOf Gs) U ks1 -> Q (.ref q) H'
noncomputable abbrev nmW : List Str := ["web", "groups", "least", "ties", "sources"]
theorem scDrw : FnScope nmW ["web", "groups"] (defScope sDrw) := ⟨rfl, rfl, rfl, by decide +kernel, rfl, by decide +kernel, by decide +kernel⟩
noncomputable abbrev XD (P : Program) (w : World) (K : W.Frag) (mg : Str -> Option Value) (base : Heap) (f : Addr) (cdv : Value) (A : Around) (outer : List Env) (s : Shared) (H : Hp) (E : XK) : Cx := (cxOf CX0 P w K mg base nmW "drawn" (defScope sDrw) f cdv A outer s H E).nox
noncomputable def compT : Scope := { kind := .function, names := [(Str.ofString ".0", .local), (Str.ofString "a", .local), (Str.ofString "b", .local), (Str.ofString "least", .free)], isGenerator := false, isCoroutine := false, more := [] }
theorem nd_compT : ([".0", "a", "b", "least"] : List Str).Nodup := by decide +kernel
theorem capsT {f : Addr} {cdv : Value} {A : Around} {outer : List Env} {s : Shared} {H : Hp} {E : XK} : Caps (XD P w K mg base f cdv A outer s H E) compT [(Str.ofString "least", s.heap.objs.size + 1)] [".0", "a", "b"] ["least"] [2] := by
 have e1 : (XD P w K mg base f cdv A outer s H E).env.cells = [(Str.ofString "least", s.heap.objs.size + 1)] := by rfl
 have e2 : (relabel compT (XD P w K mg base f cdv A outer s H E).env).names = [(Str.ofString ".0", .local), (Str.ofString "a", .local), (Str.ofString "b", .local), (Str.ofString "least", .cell)] := by rfl
 refine ⟨rfl, fun x c h => ?_, rfl, by decide +kernel, by decide +kernel, fun x hx => ?_, rfl, fun i x e => ?_⟩
 ·have hx : (x = Str.ofString "least" /\ c = s.heap.objs.size + 1) := by
   have := PySem.mem_of_lookup h
   simpa using this
  obtain ⟨rfl, rfl⟩ := hx
  rw [e1]; rfl
 ·rw [e2] at hx
  have hx : x = Str.ofString "least" := by
   rcases hx with hx | hx
   all_goals
    have := PySem.mem_of_lookup hx
    simpa using this
  subst hx
  exact ⟨_, rfl⟩
 ·match i, e with
  | 0, e =>
   cases (Option.some.inj e)
   exact ⟨2, rfl, rfl, rfl, rfl, by rw [e2]; rfl⟩
  | n + 1, e => cases e
noncomputable def compS : Scope := { kind := .function, names := [(Str.ofString ".0", .local), (Str.ofString "ends", .local), (Str.ofString "least", .free)], isGenerator := false, isCoroutine := false, more := [] }
theorem nd_compS : ([".0", "ends", "least"] : List Str).Nodup := by decide +kernel
theorem capsS {f : Addr} {cdv : Value} {A : Around} {outer : List Env} {s : Shared} {H : Hp} {E : XK} : Caps (XD P w K mg base f cdv A outer s H E) compS [(Str.ofString "least", s.heap.objs.size + 1)] [".0", "ends"] ["least"] [2] := by
 have e1 : (XD P w K mg base f cdv A outer s H E).env.cells = [(Str.ofString "least", s.heap.objs.size + 1)] := by rfl
 have e2 : (relabel compS (XD P w K mg base f cdv A outer s H E).env).names = [(Str.ofString ".0", .local), (Str.ofString "ends", .local), (Str.ofString "least", .cell)] := by rfl
 refine ⟨rfl, fun x c h => ?_, rfl, by decide +kernel, by decide +kernel, fun x hx => ?_, rfl, fun i x e => ?_⟩
 ·have hx : (x = Str.ofString "least" /\ c = s.heap.objs.size + 1) := by
   have := PySem.mem_of_lookup h
   simpa using this
  obtain ⟨rfl, rfl⟩ := hx
  rw [e1]; rfl
 ·rw [e2] at hx
  have hx : x = Str.ofString "least" := by
   rcases hx with hx | hx
   all_goals
    have := PySem.mem_of_lookup hx
    simpa using this
  subst hx
  exact ⟨_, rfl⟩
 ·match i, e with
  | 0, e =>
   cases (Option.some.inj e)
   exact ⟨2, rfl, rfl, rfl, rfl, by rw [e2]; rfl⟩
  | n + 1, e => cases e
theorem lst_at {H : Hp} {N : Int -> Int} {U : List Mt.Tri} {kvs : List (List Key × V)} {ks : List (List Int)} (L : Dr.Lst (val3 H) N U kvs) (h : Dr.Sld N U ks) {k : List Int} (hk : k ∈ ks) : ∃ (r p : Addr) (n a b : Int), valV kvs (k.map Sum.inl) = some (.ref r) /\ Dr.rowOf N U k = [n, a, b] /\ H r = some (.tup [.int n, .ref p]) /\ H p = some (.tup ([a, b].map V.int)) := by
 refine gz9 fun _ bk0 => ?_
 obtain ⟨v, ev⟩ := Option.isSome_iff_exists.mp ((L.has k).mpr ((h.mem k).mp hk))
 obtain ⟨row, hv, hm⟩ := L.some k v ev
 obtain ⟨r, p, n, a, b, rfl, rfl, h1, h2⟩ := hv
 refine bk0 ?_
 exact ⟨r, p, n, a, b, ev, Dr.rowOf_eq hm, h1, h2⟩
theorem sld_of {val : V -> List Int -> Prop} {N : Int -> Int} {U : List Mt.Tri} {kvs : List (List Key × V)} {ts ks : List (List Int)} (L : Dr.Lst val N U kvs) (e : kvs.map (·.1) = ts.map (·.map Sum.inl)) (nd : ts.Nodup) (p : ks.Perm ts) (srt : ks.Pairwise fun a b => HT.lexLt b a = false) : Dr.Sld N U ks := by
 have hm : ∀ k, k ∈ ks ↔ (valV kvs (k.map Sum.inl)).isSome = true := fun k => by
  rw [p.mem_iff]
  constructor
  ·intro hk
   have : k.map Sum.inl ∈ kvs.map (·.1) := by rw [e]; exact List.mem_map.mpr ⟨k, hk, rfl⟩
   obtain ⟨kv, hkv, q⟩ := List.mem_map.mp this
   unfold valV
   rw [Option.isSome_map, List.find?_isSome]
   exact ⟨kv, hkv, decide_eq_true q⟩
  ·intro h
   unfold valV at h
   rw [Option.isSome_map, List.find?_isSome] at h
   refine gz9 fun _ bk0 => ?_
   obtain ⟨kv, hkv, q⟩ := h
   have q := of_decide_eq_true q
   have : kv.1 ∈ ts.map (·.map Sum.inl) := by rw [<- e]; exact List.mem_map.mpr ⟨kv, hkv, rfl⟩
   obtain ⟨k', hk', q'⟩ := List.mem_map.mp this
   refine bk0 ?_
   have : k' = k := Dr.inl2 (q'.trans q)
   exact this ▸ hk'
 refine ⟨srt, p.nodup_iff.mpr nd, fun k => (hm k).trans (L.has k), fun k hk => ?_⟩
 refine gz9 fun _ bk0 => ?_
 obtain ⟨v, ev⟩ := Option.isSome_iff_exists.mp ((hm k).mp hk)
 obtain ⟨row, _, mn⟩ := L.some k v ev
 refine bk0 ?_
 rw [Dr.rowOf_eq mn]
 exact mn
theorem ok_drw {f fN fB fI : Addr} {fd fdN fdB fdI : FuncData} (F : Fun K "drawn" "drawn" sDrw f fd) (T0 : TxtW K mg C) (glen : mg "len" = none) (MI : Mk K C fI) (GI : FnOk P w K mg base CX0 3 fI fdI ["self", "many", "ties"] (spInit C K)) (bI : Binds K fdI ["self", "many", "ties"] [])
  (GN : FnOk P w K mg base CX0 1 fN fdN ["groups"] spNums) (mN : mg "numbers_of" = some (.ref fN)) (kN : PySem.W.keepIn K (.ref fN) = true) (bN : Binds K fdN ["groups"] [])
  (GB : FnOk P w K mg base CX0 2 fB fdB ["web", "numbers"] (spBtw C)) (mB : mg "heaviest_between" = some (.ref fB)) (kB : PySem.W.keepIn K (.ref fB) = true) (bB : Binds K fdB ["web", "numbers"] []) : FnOk P w K mg base CX0 5 f fd ["web", "groups"] (spDrw C) := by
 refine F.ok scDrw (fun vs H Q E h => ?_) (fun cdv A outer s H vs Q E hr h => ?_)
 ·obtain ⟨x, g, m, T, ks, U, gs, Gs, rfl, _⟩ := h
  rfl
 ·obtain ⟨x, g, m, T, ks, U, gs, Gs, rfl, W, eU, lU, G, cov, hQ⟩ := h
  have hu := hu_of hr
  have hr1 : Room 1 (XD P w K mg base f cdv A outer s H E).A := hr.mono (by decide)
  have hr2 : Room 2 (XD P w K mg base f cdv A outer s H E).A := hr.mono (by decide)
  have hr4 : Room 4 (XD P w K mg base f cdv A outer s H E).A := hr
  refine' ⟨_, pss_cons ?s0 (pss_cons ?s1 (pss_cons ?s2 (pss_one ?s3))), ?_⟩
  case s0 => exact ps_set (i := 2) scDrw.nd rfl (Or.inr rfl) (pe_call GB hr2 (by rfl) mB kB bB .nil pass0 (pa_cons (pv 0) (pa_cons (pe_call GN hr1 (by rfl) mN kN bN .nil pass0 (pa_cons (pv 1) pa_nil)) pa_nil)))
  case s1 => exact ps_comp (i := 3) (g := gTup K 2 (gCons (gName 1) (gCons (gName 2) gNil))) (own := [".0", "a", "b"]) (caps := ["least"]) (js := [2]) rfl capsT (pi_list (pe_callB (call_sortedDB rfl) (by rfl) T0.srt boot_sorted (pa_cons (pv 2) pa_nil))) (fun pins C s H1 fp => pg_tup (n := 2) rfl (pgs_cons (pg_name (i := 1) nd_compT rfl (Or.inl rfl) (Or.inr rfl)) (pgs_cons (pg_name (i := 2) nd_compT rfl (Or.inl rfl) (Or.inr rfl)) pgs_nil))) (fun pins C s H1 fp => pts_nil) (fun pins C s H1 fp => pe_tup (pa_cons (pv 1) (pa_cons (pv 2) (pa_cons (pe_un un_neg (pe_ix (ix_tupK K rfl) (pe_dget hu (pv 3) (pe_tup (pa_cons (pv 1) (pa_cons (pv 2) pa_nil))) (fun _ _ => rfl)) pe_int (fun _ _ => rfl))) pa_nil)))) scDrw.nd rfl rfl rfl
  case s2 => exact ps_comp (i := 4) (g := gName 1) (own := [".0", "ends"]) (caps := ["least"]) (js := [2]) rfl capsS (pi_list (pe_callB (call_sortedDB rfl) (by rfl) T0.srt boot_sorted (pa_cons (pv 2) pa_nil))) (fun pins C s H1 fp => pg_name (i := 1) nd_compS rfl (Or.inl rfl) (Or.inr rfl)) (fun pins C s H1 fp => pts_nil) (fun pins C s H1 fp => pe_ix (ix_tupK K rfl) (pe_dget hu (pv 2) (pv 1) (fun _ _ => rfl)) pe_int (fun _ _ => rfl)) scDrw.nd rfl rfl rfl
  case s3 => exact ps_ret (pe_tup (pa_cons (pe_make MI GI hr4 rfl T0.mgC bI .nil pass0 (pa_cons (pe_callB call_len_seq (by rfl) glen PySem.boot_len (pa_cons (pv 1) pa_nil)) (pa_cons (pv 3) pa_nil))) (pa_cons (pv 4) pa_nil)))
  rw [show L2.start nmW [V.ref x, .ref g] = [some (.ref x), some (.ref g), none, none, none] from rfl]
  refine ⟨_, rfl, _, rfl, g, gs, Gs, rfl, G.lst, G.ls, G.nd, G.len, G.all, fun dn nums H1 ndn s1 hdn nm => ?_⟩
  have hN : ∀ y ∈ Gs.flatten, valV nums (.inl y) = some (.int (Dr.numOf Gs y)) := fun y hy => by
   refine gz9 fun _ bk0 => ?_
   obtain ⟨G', hG, hx⟩ := List.mem_flatten.mp hy
   obtain ⟨k, hk, e⟩ := List.getElem_of_mem hG
   refine bk0 ?_
   have e' : Gs[k]? = some G' := by rw [List.getElem?_eq_getElem hk, e]
   rw [nm k G' y e' hx, Dr.num_at G.nd e' hx]
  refine ⟨x, dn, m, T, ks, U, nums, Dr.numOf Gs, rfl, W.same s1, eU, by (first | lia | omega), hdn, fun t ht => ⟨hN _ (cov t ht).1, hN _ (cov t ht).2⟩, fun d kvs H2 nd s2 hd L lk => ?_⟩
  dsimp only [gName, List.set_cons_succ, List.set_cons_zero]
  have s02 := s1.trans s2
  obtain ⟨ts, ek, ndt⟩ := L.keys
  have tne : ∀ t ∈ ts, t ≠ [] := fun t ht z => by
   have : t.map Sum.inl ∈ kvs.map (·.1) := by rw [ek]; exact List.mem_map.mpr ⟨t, ht, rfl⟩
   obtain ⟨kv, hkv, q⟩ := List.mem_map.mp this
   have hs : (valV kvs (t.map Sum.inl)).isSome = true := by
    unfold valV
    rw [Option.isSome_map, List.find?_isSome]
    exact ⟨kv, hkv, decide_eq_true q⟩
   refine gz9 fun _ bk0 => ?_
   obtain ⟨u, _, wv, e⟩ := (L.has t).mp hs
   obtain ⟨i, j, a, b, e1, _⟩ := Dr.rowK_two e
   refine bk0 ?_
   rw [z] at e1
   exact nomatch e1
  refine ⟨_, rfl, d, kvs, ts, rfl, hd, ek, tne, by (first | lia | omega), fun rs rs' ks1 p hrs hS hp => ?_⟩
  obtain ⟨hrs', pm, hlen⟩ := hrs.sorted hS
  have S1 := sld_of L ek ndt pm hS.ord
  have lts : ts.length = kvs.length := by
   have := congrArg List.length ek
   rw [List.length_map, List.length_map] at this
   exact this.symm
  have lk1 : ks1.length = kvs.length := by rw [pm.length_eq, lts]
  have lq : rs'.length = ks1.length := Paired.length hrs'
  have s3 : Same H2 (upd H2 p (.lst (rs'.map V.ref))) := Same.new hp
  have hp3 : upd H2 p (.lst (rs'.map V.ref)) p = some (.lst (rs'.map V.ref)) := upd_same
  have hT3 := TupsH.same s3 hrs'
  generalize upd H2 p (.lst (rs'.map V.ref)) = H3 at s3 hp3 hT3 ⊢
  refine ⟨p, rfl, ⟨_, SqL.of hp3⟩, fun D hD => ?_⟩
  refine turns_list (K := K) (a := p) (xs := rs'.map V.ref) (fun i ys σ H4 => ∃ (zs : List Addr) (e0 e1 e2 : Option V), ys = zs.map V.ref /\ σ = [e0, e1, e2, some (.ref d)] /\ Same H3 H4 /\ H4 D = some (.lst ys) ∧
    TupsH H4 zs ((ks1.take i).map fun k => Mt.tri (Dr.tieOf (Dr.numOf Gs) U k))) ⟨[], none, none, none, rfl, rfl, Same.new hD, upd_same, .nil⟩ ?_ ?_ ?_
  ·rintro i ys σ H4 ⟨zs, e0, e1, e2, rfl, rfl, s4, hD4, hz⟩
   refine ⟨hD4, small1000 ?_, SqL.of (s4 p _ hp3)⟩
   have := Paired.length hz
   rw [List.length_map, List.length_take] at this
   rw [List.length_map]
   (first | lia | omega)
  ·rintro i x0 ys σ H4 hi ⟨zs, e0, e1, e2, rfl, rfl, s4, hD4, hz⟩
   have hil : i < rs'.length := by have := (List.getElem?_eq_some_iff.mp hi).1; rw [List.length_map] at this; exact this
   obtain ⟨r, rfl, er⟩ : ∃ r, x0 = V.ref r /\ rs'[i]? = some r := by
    rw [List.getElem?_map] at hi
    cases y : rs'[i]? with
    | none => rw [y] at hi; cases hi
    | some r => rw [y] at hi; exact ⟨r, (Option.some.inj hi).symm, rfl⟩
   refine gz9 fun _ bk0 => ?_
   obtain ⟨k, ek1, hk, _⟩ := Sx.pair_at (i := i) (a := r) hT3 er
   have kin := List.mem_of_getElem? ek1
   obtain ⟨r0, p0, n0, a0, b0, ev, eR, h1, h2⟩ := lst_at L S1 kin
   obtain ⟨u, v, _, _, _, rfl, _⟩ := S1.two kin
   refine bk0 ?_
   refine ⟨r, _, rfl, SqT.of (s4 r _ hk), rfl, _, _, rfl, _, _, rfl, rfl, ?_⟩
   dsimp only
   refine yes_of ?_
   refine ⟨_, rfl, _, rfl, _, rfl, _, rfl, _, rfl, (by show 2 <= sizeLine; decide), fun y hy => ?_⟩
   have s5 : Same H4 (upd H4 y (.tup [.int u, .int v])) := Same.new hy
   have hy5 : upd H4 y (.tup [.int u, .int v]) y = some (.tup ([Sum.inl u, Sum.inl v].map kV)) := upd_same
   have hd5 := s5 d _ (s4 d _ (s3 d _ hd))
   have hr5 := s5 r0 _ (s4 r0 _ (s3 r0 _ h1))
   generalize upd H4 y (.tup [.int u, .int v]) = H5 at s5 hy5 hd5 hr5 ⊢
   refine ⟨d, .ref r0, rfl, ?_, ?_⟩
   ·have g := DGet.t (k := [Sum.inl u, Sum.inl v]) hd5 hy5
    rw [show ([Sum.inl u, Sum.inl v] : List Key) = [u, v].map Sum.inl from rfl, ev] at g
    exact g
   refine ⟨r0, _, _, _, rfl, rfl, SqT.of hr5, (show _ = some (V.int n0) from rfl), n0, rfl, (by show 3 <= sizeLine; decide), fun z hz' => ?_⟩
   have s6 := s5.trans (Same.new (o := .tup [.int u, .int v, .int (-n0)]) hz')
   have hD6 := s6 D _ hD4
   have hz6 : upd H5 z (.tup [.int u, .int v, .int (-n0)]) z = some (.tup [.int u, .int v, .int (-n0)]) := upd_same
   generalize upd H5 z (.tup [.int u, .int v, .int (-n0)]) = H6 at s6 hD6 hz6 ⊢
   refine ⟨hD6, Nxt.mk (by rw [List.length_map]; exact hil) ⟨zs ++ [z], _, _, _, by rw [List.map_append]; rfl, rfl, fun b o e => ?_, upd_same, ?_⟩⟩
   ·rw [upd_ne (ne_of_none e hD)]
    exact s6 b o (s4 b o e)
   ·rw [List.take_succ, ek1, List.map_append]
    refine paired_snoc (zip_paired (Paired.length hz) fun g hg => ⟨by rw [upd_ne (ne_of (paired_zip hz g hg).1 hD4 (by intro y; cases y))]; exact s6 _ _ (paired_zip hz g hg).1, (paired_zip hz g hg).2⟩) ⟨?_, fun z => by cases z⟩
    rw [upd_ne (ne_of hz6 hD6 (by intro y; cases y)), hz6]
    unfold Mt.tri Dr.tieOf
    dsimp only
    rw [eR]
    rfl
  ·rintro ys σ H4 ⟨zs, e0, e1, e2, rfl, rfl, s4, hD4, hz⟩
   rw [List.length_map, lq, List.take_length] at hz
   have lz := Paired.length hz
   rw [List.length_map] at lz
   have nD : H D = none := Dr.none_of (s02.trans s3) hD
   have s24 := s3.trans s4
   have hd4 := s24 d _ hd
   clear hp3 hT3 hrs' hrs hS hp hlen
   dsimp only [gName, List.set_cons_succ, List.set_cons_zero]
   refine ⟨_, rfl, d, kvs, ts, rfl, hd4, ek, tne, by (first | lia | omega), fun rs rs' ks2 p hrs hS hp => ?_⟩
   obtain ⟨hrs', pm2, hlen⟩ := hrs.sorted hS
   have S2 := sld_of L ek ndt pm2 hS.ord
   cases S2.uniq S1 fun t => Iff.rfl
   have lq : rs'.length = ks1.length := Paired.length hrs'
   have s5 : Same H4 (upd H4 p (.lst (rs'.map V.ref))) := Same.new hp
   have hp5 : upd H4 p (.lst (rs'.map V.ref)) p = some (.lst (rs'.map V.ref)) := upd_same
   have hT5 := TupsH.same s5 hrs'
   generalize upd H4 p (.lst (rs'.map V.ref)) = H5 at s5 hp5 hT5 ⊢
   have s25 := s24.trans s5
   refine ⟨p, rfl, ⟨_, SqL.of hp5⟩, fun D2 hD2 => ?_⟩
   refine turns_list (K := K) (a := p) (xs := rs'.map V.ref) (fun i ys σ H6 => ∃ (zs : List Addr) (e0 e1 : Option V), ys = zs.map V.ref /\ σ = [e0, e1, some (.ref d)] /\ Same H5 H6 /\ H6 D2 = some (.lst ys) ∧
     TupsH H6 zs ((ks1.take i).map fun k => (Dr.rowOf (Dr.numOf Gs) U k).drop 1)) ⟨[], none, none, rfl, rfl, Same.new hD2, upd_same, .nil⟩ ?_ ?_ ?_
   ·rintro i ys σ H6 ⟨zs, e0, e1, rfl, rfl, s6, hD6, hz⟩
    refine ⟨hD6, small1000 ?_, SqL.of (s6 p _ hp5)⟩
    have := Paired.length hz
    rw [List.length_map, List.length_take] at this
    rw [List.length_map]
    (first | lia | omega)
   ·rintro i x0 ys σ H6 hi ⟨zs, e0, e1, rfl, rfl, s6, hD6, hz⟩
    have hil : i < rs'.length := by have := (List.getElem?_eq_some_iff.mp hi).1; rw [List.length_map] at this; exact this
    obtain ⟨r, rfl, er⟩ : ∃ r, x0 = V.ref r /\ rs'[i]? = some r := by
     rw [List.getElem?_map] at hi
     cases y : rs'[i]? with
     | none => rw [y] at hi; cases hi
     | some r => rw [y] at hi; exact ⟨r, (Option.some.inj hi).symm, rfl⟩
    refine gz9 fun _ bk0 => ?_
    obtain ⟨k, ek1, hk, _⟩ := Sx.pair_at (i := i) (a := r) hT5 er
    have kin := List.mem_of_getElem? ek1
    obtain ⟨r0, p0, n0, a0, b0, ev, eR, h1, h2⟩ := lst_at L S1 kin
    refine bk0 ?_
    have hr6 := s6 r0 _ (s25 r0 _ h1)
    have hp6 := s6 p0 _ (s25 p0 _ h2)
    unfold gName
    refine yes_of ?_
    refine ⟨_, rfl, _, rfl, d, .ref r0, rfl, ?_, r0, _, _, _, rfl, rfl, SqT.of hr6, (show _ = some (V.ref p0) from rfl), hD6, Nxt.mk (by rw [List.length_map]; exact hil) ⟨zs ++ [p0], _, _, by rw [List.map_append]; rfl, rfl, fun b o e => ?_, upd_same, ?_⟩⟩
    ·have g := DGet.t (k := k.map Sum.inl) (s6 d _ (s25 d _ hd)) (by rw [s6 r _ hk, List.map_map]; rfl)
     rw [ev] at g
     exact g
    ·rw [upd_ne (ne_of_none e hD2)]
     exact s6 b o e
    ·rw [List.take_succ, ek1, List.map_append]
     refine paired_snoc (zip_paired (Paired.length hz) fun g hg => ⟨by rw [upd_ne (ne_of (paired_zip hz g hg).1 hD6 (by intro y; cases y))]; exact (paired_zip hz g hg).1, (paired_zip hz g hg).2⟩) ⟨?_, fun z => by dsimp only at z; rw [eR] at z; cases z⟩
     rw [upd_ne (ne_of hp6 hD6 (by intro y; cases y)), hp6]
     dsimp only
     rw [eR]
     rfl
   ·rintro ys σ H6 ⟨zs2, e0, e1, rfl, rfl, s6, hD6, hz2⟩
    rw [List.length_map, lq, List.take_length] at hz2
    have s26 := s25.trans s6
    have hD7 := s6 D _ (s5 D _ hD4)
    have hz7 := TupsH.same (s5.trans s6) hz
    have nD2 : H D2 = none := Dr.none_of (s02.trans s25) hD2
    have s06 := s02.trans s26
    clear s25 s5 hp5 hT5 hrs hrs' hS hp hlen hd4 hz hD4 s4 hD2
    dsimp only [gName, List.set_cons_succ, List.set_cons_zero]
    have lg : (gs.map V.ref).length = Gs.length := by rw [List.length_map]; exact Paired.length G.ls
    refine ⟨_, rfl, g, _, rfl, .inl (SqL.of (s06 g _ G.lst)), _, rfl, fun x' dx hx hdx ndx => ?_⟩
    rw [lg]
    have s7 : Same H6 (upd (upd H6 dx (.own x')) x' (.ins C dx [])) := fun b o e => by
     rw [upd_ne (ne_of_none e hx), upd_ne (ne_of_none e hdx)]
     exact e
    have gl := G.len
    refine ⟨x', Gs.length, D, dx, zs, ks1.map (Dr.tieOf (Dr.numOf Gs) U), rfl, upd_same, ⟨SqL.of (s7 D _ hD7), TupsH.same s7 (by rw [List.map_map]; exact hz7)⟩, by rw [List.length_map]; (first | lia | omega), by (first | lia | omega), Dr.good_of_sld G.nd cov S1, fun H8 ks' k8 W8 => ⟨rfl, ?_⟩⟩
    have s68 : Same H6 H8 := fun b o e => k8 b o (s7 b o e) (ne_of_none e hx)
    have W := W8.web
    refine ⟨_, rfl, (by show 2 <= sizeLine; decide), fun q nq => hQ q x' D2 ks1 ks' zs2 _ ((s06.trans s68).trans (Same.new nq)) upd_same (W.same (Same.new nq)) nD2 (Same.new nq D2 _ (s68 D2 _ hD6)) (TupsH.same (s68.trans (Same.new nq)) hz2) S1⟩
end
end K29
namespace L2
noncomputable def oth (t : List Int) (j : Nat) : List Int := t.drop (j + 1) ++ t.take j
theorem oth_len {t : List Int} {j : Nat} (h : j < t.length) : (oth t j).length = t.length - 1 := by
 unfold oth
 rw [List.length_append, List.length_drop, List.length_take]
 (first | lia | omega)
theorem oth_at {t : List Int} {j k : Nat} (h : j < t.length) (hk : k < t.length - 1) : (oth t j)[k]? = t[if k < t.length - 1 - j then j + 1 + k else k - (t.length - 1 - j)]? := by
 unfold oth
 by_cases c : k < t.length - 1 - j
 ·rw [if_pos c, List.getElem?_append_left (by rw [List.length_drop]; (first | lia | omega)), List.getElem?_drop]
 ·rw [if_neg c, List.getElem?_append_right (by rw [List.length_drop]; (first | lia | omega)), List.length_drop, List.getElem?_take]
  rw [if_pos (by (first | lia | omega))]
  congr 1
  (first | lia | omega)
theorem prs_mem {t : List Int} {j : Nat} (hn : t.Nodup) (hj : j < t.length) {pr : List Int} (h : pr ∈ prs (oth t j)) : ∃ (x y : Int) (a b : Nat), pr = [x, y] /\ x < y /\ t[a]? = some x /\ t[b]? = some y /\ (b = a + 1 \/ a = b + 1 \/ b + (t.length - 1) = a \/ a + (t.length - 1) = b) := by
 obtain ⟨i, hi, e⟩ := List.getElem_of_mem h
 rw [prs_len, oth_len hj] at hi
 have hl := oth_len hj
 have g := prs_get (oth t j) i (by (first | lia | omega))
 have e' : (prs (oth t j))[i]? = some pr := by rw [<- e]; simp
 rw [g] at e'
 have e' := Option.some.inj e'
 have h1 := oth_at (k := 2 * i) hj (by (first | lia | omega))
 have h2 := oth_at (k := 2 * i + 1) hj (by (first | lia | omega))
 obtain ⟨x, ex⟩ : ∃ x, (oth t j)[2 * i]? = some x := ⟨(oth t j)[2 * i]'(by (first | lia | omega)), by simp⟩
 obtain ⟨y, ey⟩ : ∃ y, (oth t j)[2 * i + 1]? = some y := ⟨(oth t j)[2 * i + 1]'(by (first | lia | omega)), by simp⟩
 have gx : (oth t j).getD (2 * i) 0 = x := by simp [ex]
 have gy : (oth t j).getD (2 * i + 1) 0 = y := by simp [ey]
 rw [gx, gy] at e'
 rw [ex] at h1
 rw [ey] at h2
 obtain ⟨A, hA, eA⟩ : ∃ A, t[A]? = some x /\ A = (if 2 * i < t.length - 1 - j then j + 1 + 2 * i else 2 * i - (t.length - 1 - j)) := ⟨_, h1.symm, rfl⟩
 obtain ⟨B, hB, eB⟩ : ∃ B, t[B]? = some y /\ B = (if 2 * i + 1 < t.length - 1 - j then j + 1 + (2 * i + 1) else 2 * i + 1 - (t.length - 1 - j)) := ⟨_, h2.symm, rfl⟩
 have hr : B = A + 1 \/ A = B + (t.length - 1) := by
  rw [eA, eB]
  split <;> split <;> (first | lia | omega)
 have nxy : x ≠ y := fun z => by
  subst z
  rcases Nat.lt_trichotomy A B with q | q | q
  ·exact first_of hn hB A q hA
  ·(first | lia | omega)
  ·exact first_of hn hA B q hB
 rcases Int.lt_or_gt_of_ne nxy with q | q
 ·refine ⟨x, y, A, B, ?_, q, hA, hB, by (first | lia | omega)⟩
  rw [<- e']
  unfold Mt.lo Mt.hi
  rw [if_neg (by (first | lia | omega)), if_pos (by (first | lia | omega))]
 ·refine ⟨y, x, B, A, ?_, q, hB, hA, by (first | lia | omega)⟩
  rw [<- e']
  unfold Mt.lo Mt.hi
  rw [if_pos (by (first | lia | omega)), if_neg (by (first | lia | omega))]
theorem oth_perm {t : List Int} {j : Nat} {z : Int} (hn : t.Nodup) (e : t[j]? = some z) : (t.filter fun a => decide (a ≠ z)).Perm (oth t j) := by
 obtain ⟨hj, ej⟩ := List.getElem?_eq_some_iff.mp e
 have hs : t = t.take j ++ z :: t.drop (j + 1) := by
  conv => lhs; rw [<- List.take_append_drop j t, List.drop_eq_getElem_cons hj, ej]
 have nd := hn
 rw [hs, List.nodup_append] at nd
 refine gz9 fun _ bk0 => ?_
 obtain ⟨_, n2, n3⟩ := nd
 obtain ⟨n4, _⟩ := List.nodup_cons.mp n2
 refine bk0 ?_
 have e1 : (t.take j).filter (fun a => decide (a ≠ z)) = t.take j := List.filter_eq_self.mpr fun a ha => decide_eq_true (n3 a ha z (.head _))
 have e2 : (t.drop (j + 1)).filter (fun a => decide (a ≠ z)) = t.drop (j + 1) := List.filter_eq_self.mpr fun a ha => decide_eq_true fun q => n4 (q ▸ ha)
 have e3 : t.filter (fun a => decide (a ≠ z)) = t.take j ++ t.drop (j + 1) := by
  conv => lhs; rw [hs]
  rw [List.filter_append, List.filter_cons, e1, e2, if_neg (by simp)]
 rw [e3]
 exact List.perm_append_comm
end L2
namespace K29
open PySem L2 PyProof.Rows
section
variable {P : Program} {w : World} {K : W.Frag} {mg : Str -> Option Value} {base : Heap}
noncomputable def spAround : Sp := fun vs H Q _ => ∃ (p : Addr) (t : List Int) (j : Nat) (z : Int), vs = [.ref p, .int z] /\ H p = some (.lst (t.map V.int)) /\ t[j]? = some z /\ (∀ i, i < j -> t[i]? ≠ some z) /\ t.length % 2 = 1 /\ t.length <= 100 ∧
 ∀ (l : Addr) (qs : List Addr) (ts : List (List Int)) (H' : Hp), H l = none -> Same H H' -> H' l = some (.lst (qs.map V.ref)) -> TupsH H' qs ts -> ts.Perm (prs (oth t j)) -> (ts.Pairwise fun a b => HT.lexLt b a = false) -> Q (.ref l) H'
noncomputable abbrev nmAr : List Str := ["ring", "out", "place", "others"]
theorem scAround : FnScope nmAr ["ring", "out"] (defScope sAround) := ⟨rfl, rfl, rfl, by decide +kernel, rfl, by decide +kernel, by decide +kernel⟩
noncomputable def compAr : Scope := { kind := .function, names := [(Str.ofString ".0", .local), (Str.ofString "at", .local), (Str.ofString "ordered", .globalImplicit), (Str.ofString "others", .free)], isGenerator := false, isCoroutine := false, more := [] }
theorem nd_ownAr : ([".0", "at", "others"] : List Str).Nodup := by decide +kernel
noncomputable abbrev XAr (P : Program) (w : World) (K : W.Frag) (mg : Str -> Option Value) (base : Heap) (f : Addr) (cdv : Value) (A : Around) (outer : List Env) (s : Shared) (H : Hp) (E : XK) : Cx := (cxOf CX0 P w K mg base nmAr "around" (defScope sAround) f cdv A outer s H E).nox
theorem capsAr {f : Addr} {cdv : Value} {A : Around} {outer : List Env} {s : Shared} {H : Hp} {E : XK} : Caps (XAr P w K mg base f cdv A outer s H E) compAr [(Str.ofString "others", s.heap.objs.size + 1)] [".0", "at"] ["others"] [3] := by
 have e1 : (XAr P w K mg base f cdv A outer s H E).env.cells = [(Str.ofString "others", s.heap.objs.size + 1)] := by rfl
 have e2 : (relabel compAr (XAr P w K mg base f cdv A outer s H E).env).names = [(Str.ofString ".0", .local), (Str.ofString "at", .local), (Str.ofString "ordered", .globalImplicit), (Str.ofString "others", .cell)] := by rfl
 refine ⟨rfl, fun x c h => by rw [e1]; exact h, rfl, by decide +kernel, by decide +kernel, fun x hx => ?_, rfl, fun i x e => ?_⟩
 ·rw [e2] at hx
  have hx : x = Str.ofString "others" := by
   rcases hx with hx | hx
   all_goals
    have := PySem.mem_of_lookup hx
    simpa using this
  subst hx
  exact ⟨_, rfl⟩
 ·match i, e with
  | 0, e =>
   cases (Option.some.inj e)
   exact ⟨3, rfl, rfl, rfl, rfl, by rw [e2]; rfl⟩
  | n + 1, e => cases e
theorem ok_around {f fO : Addr} {fd fdO : FuncData} (F : Fun K "around" "around" sAround f fd) (glen : mg "len" = none) (grange : mg "range" = none) (gsrt : mg "sorted" = none)
  (GO : FnOk P w K mg base CX0 1 fO fdO ["a", "b"] spOrd) (mO : mg "ordered" = some (.ref fO)) (kO : PySem.W.keepIn K (.ref fO) = true) (bO : Binds K fdO ["a", "b"] []) : FnOk P w K mg base CX0 2 f fd ["ring", "out"] spAround := by
 refine F.ok scAround (fun vs H Q E h => ?_) (fun cdv A outer s H vs Q E hr h => ?_)
 ·obtain ⟨p, t, j, z, rfl, _⟩ := h
  rfl
 ·obtain ⟨p, t, j, z, rfl, hp, ej, hf, odd, lt, hQ⟩ := h
  have hj : j < t.length := (List.getElem?_eq_some_iff.mp ej).1
  refine' ⟨_, pss_cons ?s0 (pss_cons ?s1 (pss_one ?s2)), ?_⟩
  case s0 => exact ps_set (i := 2) scAround.nd rfl (Or.inl rfl) (pe_bm PySem.F.plainAttrs_list PySem.F.slot_list_index PySem.F.type_list_index mt_index (pv 0) (pa_cons (pv 1) pa_nil))
  case s1 => exact ps_set (i := 3) scAround.nd rfl (Or.inr rfl) (pe_op op_cat (pe_slice sl_list (pv 0) (po_some (pe_op op_add (pv 2) pe_int)) po_none) (pe_slice sl_list (pv 0) po_none (po_some (pv 2))))
  case s2 =>
   refine' ps_ret (pe_callB call_sortedLB (by rfl) gsrt boot_sorted (pa_cons ?cc pa_nil))
   case cc => exact pe_comp (g := gName 1) (own := [".0", "at"]) (caps := ["others"]) (js := [3]) rfl capsAr (pi_range02 rfl grange (pa_cons pe_int (pa_cons (pe_callB call_len_seq (by rfl) glen PySem.boot_len (pa_cons (pv 3) pa_nil)) (pa_cons pe_int pa_nil)))) (fun pins C s H1 fp => pg_name (i := 1) nd_ownAr rfl (Or.inl rfl) (Or.inr rfl)) (fun pins C s H1 fp => pts_nil) (fun pins C s H1 fp => pe_call GO hr rfl mO kO bO .nil pass0 (pa_cons (pe_ix (ix_listK K rfl) (pv 2) (pv 1) (fun _ _ => rfl)) (pa_cons (pe_ix (ix_listK K rfl) (pv 2) (pe_op op_add (pv 1) pe_int) (fun _ _ => rfl)) pa_nil)))
  refine ⟨_, rfl, .inl ⟨rfl, _, SqL.of hp⟩, _, rfl, p, t, z, j, rfl, rfl, hp, ej, hf, ?_⟩
  dsimp only [gName, List.set_cons_succ, List.set_cons_zero]
  refine ⟨_, rfl, _, rfl, _, _, rfl, rfl, _, rfl, p, _, rfl, SqL.of hp, fun l1 h1 => ?_⟩
  rw [cut_map, cutA_drop _ (by (first | lia | omega))]
  have s1 : Same H (upd H l1 (.lst ((t.drop ((j : Int) + 1).toNat).map V.int))) := Same.new' h1
  refine ⟨_, rfl, _, rfl, _, rfl, p, _, rfl, SqL.of (s1 p _ hp), fun l2 h2 => ?_⟩
  rw [cut_map, cutA_take _ (by (first | lia | omega))]
  have s2 := Same.new' (o := .lst ((t.take (j : Int).toNat).map V.int)) h2
  refine ⟨l1, l2, _, _, rfl, rfl, s2 l1 _ upd_same, upd_same, Nat.le_of_lt (small1000 (by rw [List.length_map, List.length_map, List.length_drop, List.length_take]; (first | lia | omega))), fun l3 h3 => ?_⟩
  have eo : (t.drop ((j : Int) + 1).toNat).map V.int ++ (t.take (j : Int).toNat).map V.int = (oth t j).map V.int := by
   unfold oth
   rw [List.map_append]
   rfl
  rw [eo]
  have s3 := Same.new' (o := .lst ((oth t j).map V.int)) h3
  have s13 := s1.trans (s2.trans s3)
  have ho : upd (upd (upd H l1 (.lst ((t.drop ((j : Int) + 1).toNat).map V.int))) l2 (.lst ((t.take (j : Int).toNat).map V.int))) l3 (.lst ((oth t j).map V.int)) l3 = some (.lst ((oth t j).map V.int)) := upd_same
  dsimp only [gName, List.set_cons_succ, List.set_cons_zero]
  generalize upd (upd (upd H l1 (.lst ((t.drop ((j : Int) + 1).toNat).map V.int))) l2 (.lst ((t.take (j : Int).toNat).map V.int))) l3 (.lst ((oth t j).map V.int)) = H3 at s13 ho ⊢
  have lo := oth_len hj
  have en : (((((oth t j).map V.int).length : Int) + 1) / 2).toNat = (oth t j).length / 2 := by rw [List.length_map]; (first | lia | omega)
  refine ⟨_, rfl, l3, _, rfl, .inl (SqL.of ho), _, rfl, by (first | lia | omega), by rw [List.length_map]; (first | lia | omega), fun D hD => ?_⟩
  rw [en]
  refine turns_rangeS (fun i ys σ H4 => ∃ (zs : List Addr) (e0 e1 : Option V), ys = zs.map V.ref /\ i <= (oth t j).length / 2 /\ σ = [e0, e1, some (.ref l3)] /\ Same H3 H4 /\ H4 D = some (.lst ys) /\ TupsH H4 zs ((prs (oth t j)).take i)) ⟨[], none, none, rfl, Nat.zero_le _, rfl, Same.new' hD, upd_same, .nil⟩ ?_ ?_ ?_
  ·rintro i ys σ H4 ⟨zs, e0, e1, rfl, li, rfl, s4, h4, hz⟩
   refine ⟨h4, small1000 ?_⟩
   have := Paired.length hz
   rw [List.length_take, prs_len] at this
   rw [List.length_map]
   (first | lia | omega)
  ·rintro i ys σ H4 hi ⟨zs, e0, e1, rfl, li, rfl, s4, h4, hz⟩
   unfold gName
   dsimp only
   refine yes_of ?_
   have hk : 2 * i + 1 < (oth t j).length := by (first | lia | omega)
   have a1 := atI_get' (xs := oth t j) (z := 0 + (i : Int) * 2) (k := 2 * i) (by (first | lia | omega)) (by (first | lia | omega))
   have a2 := atI_get' (xs := oth t j) (z := 0 + (i : Int) * 2 + 1) (k := 2 * i + 1) (by (first | lia | omega)) hk
   have ho4 := s4 l3 _ ho
   refine ⟨_, rfl, _, rfl, l3, _, _, _, rfl, rfl, SqL.of ho4, a1, _, rfl, _, rfl, _, _, rfl, rfl, l3, _, _, _, rfl, rfl, SqL.of ho4, a2, _, _, rfl, fun y hy => ?_⟩
   have gp := prs_get (oth t j) i hk
   have s5 := Same.new' (o := .tup [.int (Mt.lo ((oth t j).getD (2 * i) 0) ((oth t j).getD (2 * i + 1) 0)), .int (Mt.hi ((oth t j).getD (2 * i) 0) ((oth t j).getD (2 * i + 1) 0))]) hy
   have h5 := s5 D _ h4
   refine ⟨h5, Nxt.mk hi ⟨zs ++ [y], _, _, by rw [List.map_append]; rfl, hi, rfl, fun b o e => ?_, upd_same, ?_⟩⟩
   ·rw [upd_ne (ne_of_none e hD)]; exact s5 b o (s4 b o e)
   ·rw [List.take_succ, gp]
    refine paired_snoc (TupsH.at' hz fun b xs e => ?_) ⟨?_, fun z => by cases z⟩
    ·rw [upd_ne (ne_of e h4 (by intro z; cases z))]; exact s5 b _ e
    ·rw [upd_ne (ne_of_none h4 hy).symm]
     exact upd_same
  ·rintro ys σ0 H4 ⟨zs, e0, e1, rfl, li, rfl, s4, h4, hz⟩
   rw [<- prs_len, List.take_length] at hz
   have lz := Paired.length hz
   rw [prs_len] at lz
   refine ⟨D, zs, _, rfl, SqL.of h4, by (first | lia | omega), hz, fun qs ts l hS hl => ?_⟩
   obtain ⟨hqs, hperm, _⟩ := hz.sorted hS
   have s5 := Same.new' (o := .lst (qs.map V.ref)) hl
   exact hQ l qs ts _ ((s13.trans s4).free hl) (s13.trans (s4.trans s5)) upd_same (TupsH.at' hqs fun b xs e => s5 b _ e) hperm hS.ord
end
end K29
namespace L2
open PySem PySem.Spec PyProof.Rows
noncomputable def IsC (Ks ts : List (List Int)) : Prop := ts.Pairwise (fun a b => HT.lexLt b a = false) /\ (∀ t ∈ ts, t ∈ Ks) /\ ts.flatten.Nodup
noncomputable def metd (xs : List Int) : List (Key × V) := xs.map fun x => (Sum.inl x, V.bl true)
theorem met_some (xs : List Int) (a : Int) : (valV (metd xs) (Sum.inl a)).isSome = decide (a ∈ xs) := by
 rw [<- valV_any]
 unfold metd
 rw [List.any_map, Bool.eq_iff_iff, decide_eq_true_iff, List.any_eq_true]
 constructor
 ·rintro ⟨x, hx, e⟩
  have e : (Sum.inl x : Key) = Sum.inl a := of_decide_eq_true e
  injection e with e
  exact e ▸ hx
 ·exact fun h => ⟨a, h, decide_eq_true rfl⟩
theorem met_snoc {xs : List Int} {a : Int} (h : a ∉ xs) : putK (metd xs) (Sum.inl a) (.bl true) = metd (xs ++ [a]) := by
 have : valV (metd xs) (Sum.inl a) = none := by
  have := met_some xs a
  rw [decide_eq_false h] at this
  cases q : valV (metd xs) (Sum.inl a) with
  | none => rfl
  | some v => rw [q] at this; cases this
 rw [putK_new _ this]
 unfold metd
 rw [List.map_append]
 rfl
theorem flat_split {ts : List (List Int)} {i : Nat} {a b : Int} (e : ts[i]? = some [a, b]) : ts.flatten = (ts.take i).flatten ++ a :: b :: (ts.drop (i + 1)).flatten /\ (ts.take (i + 1)).flatten = (ts.take i).flatten ++ [a, b] := by
 obtain ⟨hi, ei⟩ := List.getElem?_eq_some_iff.mp e
 constructor
 ·conv => lhs; rw [<- List.take_append_drop i ts, List.drop_eq_getElem_cons hi, ei]
  simp
 ·rw [List.take_succ, e]
  simp
noncomputable def prt (U : List Mt.Tri) : List (Key × V) := U.foldl (fun d u => putK (putK d (.inl (Mt.lo u.1 u.2.1)) (.int (Mt.hi u.1 u.2.1))) (.inl (Mt.hi u.1 u.2.1)) (.int (Mt.lo u.1 u.2.1))) []
theorem prt_snoc (U : List Mt.Tri) (u : Mt.Tri) : prt (U ++ [u]) = putK (putK (prt U) (.inl (Mt.lo u.1 u.2.1)) (.int (Mt.hi u.1 u.2.1))) (.inl (Mt.hi u.1 u.2.1)) (.int (Mt.lo u.1 u.2.1)) := by
 unfold prt
 rw [List.foldl_append]
 rfl
theorem putK_len {κ : Type} [DecidableEq κ] (kvs : List (κ × V)) (k : κ) (v : V) : (putK kvs k v).length <= kvs.length + 1 := by
 unfold putK
 split
 ·rw [List.length_map]; exact Nat.le_succ _
 ·rw [List.length_append]; exact Nat.le_refl _
theorem prt_len (U : List Mt.Tri) : (prt U).length <= 2 * U.length := by
 have : ∀ (U : List Mt.Tri) (d : List (Key × V)), (U.foldl (fun d u => putK (putK d (.inl (Mt.lo u.1 u.2.1)) (.int (Mt.hi u.1 u.2.1))) (.inl (Mt.hi u.1 u.2.1)) (.int (Mt.lo u.1 u.2.1))) d).length <= d.length + 2 * U.length := by
  intro U
  induction U with
  | nil => exact fun d => Nat.le_refl _
  | cons u U ih =>
   intro d
   have h1 := ih (putK (putK d (.inl (Mt.lo u.1 u.2.1)) (.int (Mt.hi u.1 u.2.1))) (.inl (Mt.hi u.1 u.2.1)) (.int (Mt.lo u.1 u.2.1)))
   have h2 := putK_len (putK d (.inl (Mt.lo u.1 u.2.1)) (.int (Mt.hi u.1 u.2.1))) (.inl (Mt.hi u.1 u.2.1)) (.int (Mt.lo u.1 u.2.1))
   have h3 := putK_len d (.inl (Mt.lo u.1 u.2.1)) (.int (Mt.hi u.1 u.2.1))
   rw [List.foldl_cons, List.length_cons]
   (first | lia | omega)
 have := this U []
 rw [List.length_nil] at this
 unfold prt
 (first | lia | omega)
noncomputable def lft (U : List Mt.Tri) (n : Nat) : List Int := ((List.range n).map fun (i : Nat) => (i : Int)).filter fun a => !(valV (prt U) (.inl a)).isSome
theorem lft_succ (U : List Mt.Tri) (n : Nat) : lft U (n + 1) = lft U n ++ (if (!(valV (prt U) (.inl (n : Int))).isSome) = true then [(n : Int)] else []) := by
 unfold lft
 rw [List.range_succ, List.map_append, List.filter_append]
 congr 1
 show List.filter _ [(n : Int)] = _
 rw [List.filter_cons]
 rfl
theorem lft_len (U : List Mt.Tri) (n : Nat) : (lft U n).length <= n := by
 unfold lft
 refine Nat.le_trans (List.length_filter_le _ _) ?_
 rw [List.length_map, List.length_range]
 exact Nat.le_refl _
end L2
namespace K29
open PySem L2 PyProof.Rows
section
variable {P : Program} {w : World} {K : W.Frag} {mg : Str -> Option Value} {base : Heap}
theorem wd_int {T : List Mt.Tri} {k : List Key} {v : V} (h : valV (wd T) k = some v) : ∃ z, v = .int z := by
 unfold valV at h
 cases q : (wd T).find? fun kv => decide (kv.1 = k) with
 | none => rw [q] at h; cases h
 | some p =>
  rw [q] at h
  obtain ⟨u, _, eu⟩ := List.mem_map.mp (List.mem_of_find?_eq_some q)
  rw [<- eu] at h
  exact ⟨_, (Option.some.inj h).symm⟩
theorem wtV_non {T : List Mt.Tri} {a b : Int} : wtV T a b = .non ↔ ¬ [Mt.lo a b, Mt.hi a b] ∈ T.map Mt.key := by
 have e := wd_some T (a, b, 0)
 unfold wtV
 show (valV (wd T) (kk (a, b, 0))).getD .non = .non ↔ ¬ Mt.key (a, b, 0) ∈ T.map Mt.key
 cases q : valV (wd T) (kk (a, b, 0)) with
 | none =>
  rw [q] at e
  refine ⟨fun _ h => ?_, fun _ => rfl⟩
  have : ((T.map Mt.key).any fun k => decide (k = Mt.key (a, b, 0))) = true := List.any_eq_true.mpr ⟨_, h, decide_eq_true rfl⟩
  rw [this] at e
  cases e
 | some v =>
  rw [q] at e
  refine gz9 fun _ bk0 => ?_
  obtain ⟨z, rfl⟩ := wd_int q
  obtain ⟨k, hk, ek⟩ := List.any_eq_true.mp e.symm
  refine bk0 ?_
  have ek := of_decide_eq_true ek
  subst ek
  exact ⟨fun z => (by cases z), fun h => absurd hk h⟩
theorem key_pair {m : Int} {T : List Mt.Tri} (sg : Mt.scan m T [] = .good) {a b : Int} (h : [a, b] ∈ T.map Mt.key) : 0 <= a /\ a < b /\ b < m := by
 obtain ⟨t, ht, e⟩ := List.mem_map.mp h
 have := Mt.key_range ((Mt.scan_good sg List.nodup_nil).2 t ht)
 unfold Mt.key at e
 injection e with e1 e2
 injection e2 with e2 _
 rw [e1, e2] at this
 exact this
theorem lohi {a b : Int} (h : a < b) : [Mt.lo a b, Mt.hi a b] = [a, b] := by
 unfold Mt.lo Mt.hi
 rw [if_neg (by (first | lia | omega)), if_pos (by (first | lia | omega))]
noncomputable def spIs (C : Addr) : Sp := fun vs H Q _ => ∃ (x q : Addr) (m : Int) (T : List Mt.Tri) (ks : List (List Int)) (qs : List Addr) (ts : List (List Int)), vs = [.ref x, .ref q] /\ WebAt C H x m T ks /\ H q = some (.lst (qs.map V.ref)) /\ TupsH H qs ts /\ Two ts /\ ts.length <= 200 ∧
 ∀ (b : Bool) (H' : Hp), (b = true ↔ IsC (T.map Mt.key) ts) -> Same H H' -> Q (.bl b) H'
noncomputable abbrev nmIs : List Str := ["web", "pairs", "met", "a", "b"]
theorem scIs : FnScope nmIs ["web", "pairs"] (defScope sIs) := ⟨rfl, rfl, rfl, by decide +kernel, rfl, by decide +kernel, by decide +kernel⟩
theorem ok_is {f fG C : Addr} {fd fdG : FuncData} (F : Fun K "is_choice" "is_choice" sIs f fd) (T0 : TxtW K mg C)
  (mG : Meth K C "weight" fG) (GG : FnOk P w K mg base CX0 2 fG fdG ["self", "a", "b"] (spWeight C)) (bG : Binds K fdG ["self", "a", "b"] []) :
  FnOk P w K mg base CX0 3 f fd ["web", "pairs"] (spIs C) := by
 refine F.ok scIs (fun vs H Q E h => ?_) (fun cdv A outer s H vs Q E hr h => ?_)
 ·obtain ⟨x, q, m, T, ks, qs, ts, rfl, _⟩ := h
  rfl
 ·obtain ⟨x, q, m, T, ks, qs, ts, rfl, W, hq, hT, h2, lt, hQ⟩ := h
  have hu := hu_of hr
  have lqs := Paired.length hT
  refine ⟨_, pss_cons (ps_if (pt_cmpR (op_neLT hu) (pv 1) (pe_callB call_sortedLB (by rfl) T0.srt boot_sorted (pa_cons (pv 1) pa_nil)) (nomark _)) (pss_one (ps_ret pe_bl)) pss_nil)
   (pss_cons (ps_set (i := 2) scIs.nd rfl (Or.inl rfl) pe_dnewK)
   (pss_cons (ps_for PassesOwn.never rfl (pi_list (pv 1)) (pg_tup rfl (pgs_cons (pg_name (i := 3) scIs.nd rfl (Or.inl rfl)) (pgs_cons (pg_name (i := 4) scIs.nd rfl (Or.inl rfl)) pgs_nil)))
    (pss_cons (ps_if (pw_or (pt_cmpR op_ge (pv 3) (pv 4) (nomark _)) (pw_or1 (pt_cmp (pc_isN (pe_meth (pv 0) T0.cl mG GG hr bG .nil pass0 (pa_cons (pv 3) (pa_cons (pv 4) pa_nil))))))).pt (pss_one (ps_ret pe_bl)) pss_nil)
    (pss_cons (ps_if (pw_or (pt_cmp (pc_din hu (pv 3) (pv 2))) (pw_or1 (pt_cmp (pc_din hu (pv 4) (pv 2))))).pt (pss_one (ps_ret pe_bl)) pss_nil)
    (pss_cons (ps_dput hu (pv 2) (pv 3) pe_bl rfl)
    (pss_one (ps_dput hu (pv 2) (pv 4) pe_bl rfl))))))
   (pss_one (ps_ret pe_bl)))), ?_⟩
  refine ⟨_, rfl, _, rfl, q, qs, ts, rfl, SqL.of hq, by (first | lia | omega), hT, fun qs' ts' l hS hl => ?_⟩
  obtain ⟨hqs', hperm, _⟩ := hT.sorted hS
  have s1 : Same H (upd H l (.lst (qs'.map V.ref))) := Same.new hl
  refine ⟨q, l, qs, qs', ts, ts', rfl, rfl, SqL.of (s1 q _ hq), SqL.of upd_same, TupsH.same s1 hT, TupsH.same s1 hqs', _, rfl, ?_⟩
  generalize upd H l (.lst (qs'.map V.ref)) = H1 at s1 ⊢
  by_cases ee : ts = ts'
  case neg =>
   rw [decide_eq_false ee]
   refine iteT (hQ false H1 ⟨fun z => (by cases z), fun z => ?_⟩ s1)
   exact absurd (Mt.sorted_eq hperm hS.ord z.1).symm ee
  rw [decide_eq_true ee]
  refine iteF ?_
  subst ee
  intro d hd
  have s2 : Same H (upd H1 d (.dK [])) := s1.trans (Same.new hd)
  have hdH : H d = none := s1.free hd
  refine ⟨_, rfl, q, rfl, ⟨_, SqL.of (s2 q _ hq)⟩, for_list (K := K) (a := q) (xs := qs.map V.ref)
   (fun i σ H3 => ∃ (e3 e4 : Option V), σ = [some (.ref x), some (.ref q), some (.ref d), e3, e4] /\ Same H H3 /\ H3 d = some (.dK (metd (ts.take i).flatten)) /\ (∀ t ∈ ts.take i, t ∈ T.map Mt.key) /\ ((ts.take i).flatten).Nodup /\ (ts.take i).flatten.length <= 2 * i)
   ⟨none, none, rfl, s2, upd_same, fun t ht => (by cases ht), List.nodup_nil, Nat.le_refl _⟩ (fun i σ H3 _ ⟨_, _, _, s3, _⟩ => SqL.of (s3 q _ hq)) ?_ ?_⟩
  ·rintro i y σ H3 hi ⟨e3, e4, rfl, s3, hd3, hk, hn, ln⟩
   refine gz9 fun _ bk0 => ?_
   obtain ⟨r, t, rfl, et, hr3⟩ := tup_at (TupsH.same s3 hT) hi
   obtain ⟨a, b, rfl⟩ := h2 t (List.mem_of_getElem? et)
   have hil : i < ts.length := (List.getElem?_eq_some_iff.mp et).1
   obtain ⟨f1, f2⟩ := flat_split et
   refine bk0 ?_
   have no : ¬ [a, b] ∈ T.map Mt.key -> ¬ IsC (T.map Mt.key) ts := fun z y => z (y.2.1 _ (List.mem_of_getElem? et))
   refine ⟨r, _, rfl, SqT.of hr3, rfl, _, _, rfl, _, _, rfl, rfl, ?_⟩
   refine ⟨_, rfl, _, rfl, _, _, rfl, rfl, _, rfl, ?_⟩
   refine ite2 (fun c => iteT (hQ false H3 ⟨fun z => (by cases z), fun z => (no (fun k => ?_) z).elim⟩ s3)) (fun c => ?_)
   ·have := key_pair W.ok k
    have c := of_decide_eq_true c
    (first | lia | omega)
   have cab : a < b := by
    have := of_decide_eq_false (Bool.not_eq_true _ ▸ c)
    (first | lia | omega)
   refine gz9 fun _ bk0 => ?_
   obtain ⟨dx, _, _, _, fs, _, w1, _, _, _, _, w6, _⟩ := (W.same s3).ex
   refine bk0 ?_
   refine ⟨_, rfl, x, dx, fs, rfl, w1, w6.2.2.1, _, rfl, _, rfl, x, m, T, ks, a, b, rfl, W.same s3, fun H4 s4 => ⟨_, rfl, ?_⟩⟩
   refine ite2 (fun c2 => hQ false H4 ⟨fun z => (by cases z), fun z => (no ?_ z).elim⟩ (s3.trans s4)) (fun c2 => ?_)
   ·have := wtV_non.mp (of_decide_eq_true c2)
    rwa [lohi cab] at this
   have kin : [a, b] ∈ T.map Mt.key := by
    have := fun z => of_decide_eq_false (Bool.not_eq_true _ ▸ c2) (wtV_non.mpr z)
    rw [lohi cab] at this
    exact Classical.byContradiction this
   have s34 := s3.trans s4
   have hd4 := s4 d _ hd3
   refine ⟨_, rfl, _, rfl, d, _, rfl, DGet.k (k := .inl a) hd4, _, rfl, ?_⟩
   rw [met_some]
   refine ite2 (fun c3 => iteT (hQ false H4 ⟨fun z => (by cases z), fun z => ?_⟩ s34)) (fun c3 => ?_)
   ·have y := z.2.2
    rw [f1, List.nodup_append] at y
    exact (y.2.2 a (of_decide_eq_true c3) a (.head _) rfl).elim
   refine ⟨_, rfl, _, rfl, d, _, rfl, DGet.k (k := .inl b) hd4, _, rfl, ?_⟩
   rw [met_some]
   refine ite2 (fun c4 => hQ false H4 ⟨fun z => (by cases z), fun z => ?_⟩ s34) (fun c4 => ?_)
   ·have y := z.2.2
    rw [f1, List.nodup_append] at y
    exact (y.2.2 b (of_decide_eq_true c4) b (.tail _ (.head _)) rfl).elim
   have na : a ∉ (ts.take i).flatten := fun z => c3 (decide_eq_true z)
   have nb : b ∉ (ts.take i).flatten := fun z => c4 (decide_eq_true z)
   have nb' : b ∉ (ts.take i).flatten ++ [a] := fun z => by
    rcases List.mem_append.mp z with z | z
    ·exact nb z
    ·rw [List.mem_singleton] at z; (first | lia | omega)
   have lm : ∀ zs : List Int, (metd zs).length = zs.length := fun zs => by unfold metd; rw [List.length_map]
   refine ⟨_, rfl, _, rfl, d, _, rfl, DPut.k (k := .inl a) hd4 (small1000 (by rw [lm]; (first | lia | omega))), ?_⟩
   rw [met_snoc na]
   refine ⟨_, rfl, _, rfl, d, _, rfl, DPut.k (k := .inl b) upd_same (small1000 (by rw [lm, List.length_append]; show _ + 1 <= _; (first | lia | omega))), ?_⟩
   rw [met_snoc nb', upd_upd]
   refine ⟨_, _, rfl, fun c o e => ?_, ?_, fun u hu => ?_, ?_, ?_⟩
   ·rw [upd_ne (ne_of_none e hdH)]
    exact s34 c o e
   ·rw [f2, upd_same, List.append_assoc]; rfl
   ·rw [List.take_succ, et] at hu
    rcases List.mem_append.mp hu with hu | hu
    ·exact hk u hu
    ·have : u = [a, b] := by simpa using hu
     rw [this]; exact kin
   ·rw [f2, List.nodup_append]
    refine ⟨hn, by simp; (first | lia | omega), fun u hu v hv => ?_⟩
    rcases List.mem_cons.mp hv with rfl | hv
    ·exact fun z => na (z ▸ hu)
    ·rw [List.mem_singleton] at hv
     subst hv
     exact fun z => nb (z ▸ hu)
   ·rw [f2, List.length_append]; show _ + 2 <= _; (first | lia | omega)
  ·rintro σ H3 ⟨e3, e4, rfl, s3, hd3, hk, hn, ln⟩
   rw [List.length_map, lqs, List.take_length] at hk hn
   exact hQ true H3 ⟨fun _ => ⟨hS.ord, hk, hn⟩, fun _ => rfl⟩ s3
noncomputable def spPart : Sp := fun vs H Q _ => ∃ (q : Addr) (qs : List Addr) (U : List Mt.Tri), vs = [.ref q] /\ H q = some (.lst (qs.map V.ref)) /\ TupsH H qs (U.map Mt.key) /\ U.length <= 63 /\ ∀ d H', H d = none -> Same H H' -> H' d = some (.dK (prt U)) -> Q (.ref d) H'
theorem scPart : FnScope ["pairs", "partners", "a", "b"] ["pairs"] (defScope sPart) := ⟨rfl, rfl, rfl, by decide +kernel, rfl, by decide +kernel, by decide +kernel⟩
theorem ok_part {f : Addr} {fd : FuncData} (F : Fun K "partners_of" "partners_of" sPart f fd) : FnOk P w K mg base CX0 1 f fd ["pairs"] spPart := by
 refine F.ok scPart (fun vs H Q E h => ?_) (fun cdv A outer s H vs Q E hr h => ?_)
 ·obtain ⟨q, qs, U, rfl, _⟩ := h
  rfl
 ·obtain ⟨q, qs, U, rfl, hq, hT, lU, hQ⟩ := h
  have hu := hu_of hr
  have lqs := Paired.length hT
  rw [List.length_map] at lqs
  refine ⟨_, pss_cons (ps_set (i := 1) scPart.nd rfl (Or.inl rfl) pe_dnewK)
   (pss_cons (ps_for PassesOwn.never rfl (pi_list (pv 0)) (pg_tup rfl (pgs_cons (pg_name (i := 2) scPart.nd rfl (Or.inl rfl)) (pgs_cons (pg_name (i := 3) scPart.nd rfl (Or.inl rfl)) pgs_nil)))
    (pss_cons (ps_dput hu (pv 1) (pv 2) (pv 3) rfl) (pss_one (ps_dput hu (pv 1) (pv 3) (pv 2) rfl))))
   (pss_one (ps_ret (pv 1)))), ?_⟩
  intro d hd
  have s0 : Same H (upd H d (.dK [])) := Same.new hd
  refine ⟨_, rfl, q, rfl, ⟨_, SqL.of (s0 q _ hq)⟩, for_list (K := K) (a := q) (xs := qs.map V.ref)
   (fun i σ H3 => ∃ (e2 e3 : Option V), σ = [some (.ref q), some (.ref d), e2, e3] /\ Same H H3 /\ H3 d = some (.dK (prt (U.take i))))
   ⟨none, none, rfl, s0, upd_same⟩ (fun i σ H3 _ ⟨_, _, _, s3, _⟩ => SqL.of (s3 q _ hq)) ?_ ?_⟩
  ·rintro i y σ H3 hi ⟨e2, e3, rfl, s3, hd3⟩
   refine gz9 fun _ bk0 => ?_
   obtain ⟨r, t, rfl, et, hr3⟩ := tup_at (TupsH.same s3 hT) hi
   refine bk0 ?_
   rw [List.getElem?_map] at et
   obtain ⟨u, eu, rfl⟩ : ∃ u, U[i]? = some u /\ Mt.key u = t := by
    cases z : U[i]? with
    | none => rw [z] at et; cases et
    | some u => rw [z] at et; exact ⟨u, rfl, Option.some.inj et⟩
   have hil : i < U.length := (List.getElem?_eq_some_iff.mp eu).1
   refine ⟨r, _, rfl, SqT.of hr3, rfl, _, _, rfl, _, _, rfl, rfl, ?_⟩
   have lp := prt_len (U.take i)
   rw [List.length_take] at lp
   have lp2 := putK_len (prt (U.take i)) (.inl (Mt.lo u.1 u.2.1)) (.int (Mt.hi u.1 u.2.1))
   refine ⟨_, rfl, _, rfl, _, rfl, d, _, rfl, DPut.k (k := .inl (Mt.lo u.1 u.2.1)) hd3 (small1000 (by (first | lia | omega))), ?_⟩
   refine ⟨_, rfl, _, rfl, _, rfl, d, _, rfl, DPut.k (k := .inl (Mt.hi u.1 u.2.1)) upd_same (small1000 (by (first | lia | omega))), ?_⟩
   rw [upd_upd]
   refine ⟨_, _, rfl, fun c o e => ?_, ?_⟩
   ·rw [upd_ne (ne_of_none e hd)]; exact s3 c o e
   ·rw [upd_same, List.take_succ, eu]
    exact congrArg some (congrArg HO.dK (prt_snoc _ u).symm)
  ·rintro σ H3 ⟨e2, e3, rfl, s3, hd3⟩
   rw [List.length_map, lqs, List.take_length] at hd3
   exact ⟨_, rfl, hQ d H3 hd s3 hd3⟩
noncomputable def spLeft (C : Addr) : Sp := fun vs H Q _ => ∃ (x q : Addr) (m : Int) (T : List Mt.Tri) (ks : List (List Int)) (qs : List Addr) (U : List Mt.Tri), vs = [.ref x, .ref q] /\ WebAt C H x m T ks /\ H q = some (.lst (qs.map V.ref)) /\ TupsH H qs (U.map Mt.key) /\ U.length <= 63 /\ ∀ l H', H l = none -> Same H H' -> H' l = some (.lst ((lft U m.toNat).map V.int)) -> Q (.ref l) H'
noncomputable abbrev nmLf : List Str := ["web", "pairs", "partners"]
theorem scLeft : FnScope nmLf ["web", "pairs"] (defScope sLeft) := ⟨rfl, rfl, rfl, by decide +kernel, rfl, by decide +kernel, by decide +kernel⟩
noncomputable def compF : Scope := { kind := .function, names := [(Str.ofString ".0", .local), (Str.ofString "point", .local), (Str.ofString "partners", .free)], isGenerator := false, isCoroutine := false, more := [] }
theorem nd_ownF : ([".0", "point", "partners"] : List Str).Nodup := by decide +kernel
noncomputable abbrev XF (P : Program) (w : World) (K : W.Frag) (mg : Str -> Option Value) (base : Heap) (f : Addr) (cdv : Value) (A : Around) (outer : List Env) (s : Shared) (H : Hp) (E : XK) : Cx := (cxOf CX0 P w K mg base nmLf "left" (defScope sLeft) f cdv A outer s H E).nox
theorem capsF {f : Addr} {cdv : Value} {A : Around} {outer : List Env} {s : Shared} {H : Hp} {E : XK} : Caps (XF P w K mg base f cdv A outer s H E) compF [(Str.ofString "partners", s.heap.objs.size + 1)] [".0", "point"] ["partners"] [2] := by
 have e1 : (XF P w K mg base f cdv A outer s H E).env.cells = [(Str.ofString "partners", s.heap.objs.size + 1)] := by rfl
 have e2 : (relabel compF (XF P w K mg base f cdv A outer s H E).env).names = [(Str.ofString ".0", .local), (Str.ofString "point", .local), (Str.ofString "partners", .cell)] := by rfl
 refine ⟨rfl, fun x c h => by rw [e1]; exact h, rfl, by decide +kernel, by decide +kernel, fun x hx => ?_, rfl, fun i x e => ?_⟩
 ·rw [e2] at hx
  have hx : x = Str.ofString "partners" := by
   rcases hx with hx | hx
   all_goals
    have := PySem.mem_of_lookup hx
    simpa using this
  subst hx
  exact ⟨_, rfl⟩
 ·match i, e with
  | 0, e =>
   cases (Option.some.inj e)
   exact ⟨2, rfl, rfl, rfl, rfl, by rw [e2]; rfl⟩
  | n + 1, e => cases e
theorem ok_left {f fP fS C : Addr} {fd fdP fdS : FuncData} (F : Fun K "left" "left" sLeft f fd) (T0 : TxtW K mg C) (grange : mg "range" = none)
  (GP : FnOk P w K mg base CX0 1 fP fdP ["pairs"] spPart) (mP : mg "partners_of" = some (.ref fP)) (kP : PySem.W.keepIn K (.ref fP) = true) (bP : Binds K fdP ["pairs"] [])
  (mS : Meth K C "size" fS) (GS : FnOk P w K mg base CX0 1 fS fdS ["self"] (spMSize C)) (bS : Binds K fdS ["self"] []) : FnOk P w K mg base CX0 2 f fd ["web", "pairs"] (spLeft C) := by
 refine F.ok scLeft (fun vs H Q E h => ?_) (fun cdv A outer s H vs Q E hr h => ?_)
 ·obtain ⟨x, q, m, T, ks, qs, U, rfl, _⟩ := h
  rfl
 ·obtain ⟨x, q, m, T, ks, qs, U, rfl, W, hq, hT, lU, hQ⟩ := h
  have hu := hu_of hr
  have m0 := W.m0
  have m1 := W.m1
  refine ⟨_, pss_cons (ps_set (i := 2) scLeft.nd rfl (Or.inr rfl) (pe_call GP hr rfl mP kP bP .nil pass0 (pa_cons (pv 1) pa_nil)))
   (pss_one (ps_ret (pe_comp (g := gName 1) (own := [".0", "point"]) (caps := ["partners"]) (js := [2]) rfl capsF (pi_range1 rfl grange (pa_cons (pe_meth0 (pv 0) T0.cl mS GS hr bS .nil pass0) pa_nil))
    (fun pins C s H1 fp => pg_name (i := 1) nd_ownF rfl (Or.inl rfl) (Or.inr rfl))
    (fun pins C s H1 fp => pts_one (pt_cmp (pc_dnotin hu (pv 1) (pv 2)) (by with_unfolding_all rfl)))
    (fun pins C s H1 fp => pv 1)))), ?_⟩
  refine ⟨_, rfl, q, qs, U, rfl, hq, hT, lU, fun d H1 hd s1 hd1 => ?_⟩
  refine gz9 fun _ bk0 => ?_
  obtain ⟨dx, _, _, _, fs, _, w1, _, _, _, _, w6, _⟩ := (W.same s1).ex
  refine bk0 ?_
  refine ⟨_, rfl, x, dx, fs, rfl, w1, w6.1, x, m, T, ks, rfl, W.same s1, m, rfl, by (first | lia | omega), by (first | lia | omega), fun D hD => ?_⟩
  refine turns_range (n := m.toNat) (fun i ys σ H2 => ∃ (e0 e1 : Option V), ys = (lft U i).map V.int /\ i <= m.toNat /\ σ = [e0, e1, some (.ref d)] /\ Same H1 H2 /\ H2 D = some (.lst ys)) ⟨none, none, rfl, Nat.zero_le _, rfl, Same.new hD, upd_same⟩ ?_ ?_ ?_
  ·rintro i ys σ H2 ⟨e0, e1, rfl, li, rfl, s2, h2⟩
   refine ⟨h2, small1000 ?_⟩
   have := lft_len U i
   rw [List.length_map]
   (first | lia | omega)
  ·rintro i ys σ H2 hi ⟨e0, e1, rfl, li, rfl, s2, h2⟩
   unfold gName
   dsimp only
   refine ⟨_, rfl, _, rfl, d, _, rfl, DGet.k (k := .inl (0 + (i : Int))) (s2 d _ hd1), _, rfl, ?_⟩
   have es := lft_succ U i
   refine ite2 (fun c => ?_) (fun c => ?_)
   ·rw [Int.zero_add] at c
    rw [if_pos c] at es
    refine ⟨_, rfl, h2, Nxt.mk hi ⟨_, _, ?_, hi, rfl, fun b o e => ?_, upd_same⟩⟩
    ·rw [es, List.map_append, Int.zero_add]; rfl
    ·rw [upd_ne (ne_of_none e hD)]; exact s2 b o e
   ·rw [Int.zero_add] at c
    rw [if_neg c, List.append_nil] at es
    exact Nxt.mk hi ⟨_, _, by rw [es], hi, rfl, s2, h2⟩
  ·rintro ys σ0 H2 ⟨e0, e1, rfl, li, rfl, s2, h2⟩
   exact hQ D H2 (s1.free hD) (s1.trans s2) h2
noncomputable def spWorth (C : Addr) : Sp := fun vs H Q _ => ∃ (x q : Addr) (m : Int) (T : List Mt.Tri) (ks : List (List Int)) (qs : List Addr) (U : List Mt.Tri), vs = [.ref x, .ref q] /\ WebAt C H x m T ks /\ H q = some (.lst (qs.map V.ref)) /\ TupsH H qs (U.map Mt.key) /\ (∀ u ∈ U, u ∈ T) /\ U.length <= 63 /\ ∀ H', Same H H' -> Q (.int (U.map fun u => u.2.2).sum) H'
noncomputable abbrev nmWo : List Str := ["web", "pairs"]
theorem scWorth : FnScope nmWo ["web", "pairs"] (defScope sWorth) := ⟨rfl, rfl, rfl, by decide +kernel, rfl, by decide +kernel, by decide +kernel⟩
noncomputable def compO : Scope := { kind := .function, names := [(Str.ofString ".0", .local), (Str.ofString "a", .local), (Str.ofString "b", .local), (Str.ofString "web", .free)], isGenerator := false, isCoroutine := false, more := [] }
theorem nd_ownO : ([".0", "a", "b", "web"] : List Str).Nodup := by decide +kernel
noncomputable abbrev XO (P : Program) (w : World) (K : W.Frag) (mg : Str -> Option Value) (base : Heap) (f : Addr) (cdv : Value) (A : Around) (outer : List Env) (s : Shared) (H : Hp) (E : XK) : Cx := (cxOf CX0 P w K mg base nmWo "worth" (defScope sWorth) f cdv A outer s H E).nox
theorem capsO {f : Addr} {cdv : Value} {A : Around} {outer : List Env} {s : Shared} {H : Hp} {E : XK} : Caps (XO P w K mg base f cdv A outer s H E) compO [(Str.ofString "web", s.heap.objs.size + 1)] [".0", "a", "b"] ["web"] [0] := by
 have e1 : (XO P w K mg base f cdv A outer s H E).env.cells = [(Str.ofString "web", s.heap.objs.size + 1)] := by rfl
 have e2 : (relabel compO (XO P w K mg base f cdv A outer s H E).env).names = [(Str.ofString ".0", .local), (Str.ofString "a", .local), (Str.ofString "b", .local), (Str.ofString "web", .cell)] := by rfl
 refine ⟨rfl, fun x c h => by rw [e1]; exact h, rfl, by decide +kernel, by decide +kernel, fun x hx => ?_, rfl, fun i x e => ?_⟩
 ·rw [e2] at hx
  have hx : x = Str.ofString "web" := by
   rcases hx with hx | hx
   all_goals
    have := PySem.mem_of_lookup hx
    simpa using this
  subst hx
  exact ⟨_, rfl⟩
 ·match i, e with
  | 0, e =>
   cases (Option.some.inj e)
   exact ⟨0, rfl, rfl, rfl, rfl, by rw [e2]; rfl⟩
  | n + 1, e => cases e
theorem wtV_of {m : Int} {T : List Mt.Tri} (sg : Mt.scan m T [] = .good) {u : Mt.Tri} (hu : u ∈ T) : wtV T (Mt.lo u.1 u.2.1) (Mt.hi u.1 u.2.1) = .int u.2.2 := by
 obtain ⟨nd, nb⟩ := Mt.scan_good sg List.nodup_nil
 rw [List.nil_append] at nd
 have h := Mt.key_range (nb u hu)
 have e : [Mt.lo (Mt.lo u.1 u.2.1) (Mt.hi u.1 u.2.1), Mt.hi (Mt.lo u.1 u.2.1) (Mt.hi u.1 u.2.1)] = Mt.key u := by
  generalize hl : Mt.lo u.1 u.2.1 = a at h
  generalize hh : Mt.hi u.1 u.2.1 = b at h
  unfold Mt.key
  rw [hl, hh]
  unfold Mt.lo Mt.hi
  rw [if_neg (by (first | lia | omega)), if_pos (by (first | lia | omega))]
 unfold wtV
 rw [e]
 show (valV (wd T) (kk u)).getD .non = _
 rw [wt_of nd u hu]
 rfl
theorem ok_worth {f fG C : Addr} {fd fdG : FuncData} (F : Fun K "worth" "worth" sWorth f fd) (T0 : TxtW K mg C) (gsum : mg "sum" = none)
  (mG : Meth K C "weight" fG) (GG : FnOk P w K mg base CX0 2 fG fdG ["self", "a", "b"] (spWeight C)) (bG : Binds K fdG ["self", "a", "b"] []) : FnOk P w K mg base CX0 3 f fd ["web", "pairs"] (spWorth C) := by
 refine F.ok scWorth (fun vs H Q E h => ?_) (fun cdv A outer s H vs Q E hr h => ?_)
 ·obtain ⟨x, q, m, T, ks, qs, U, rfl, _⟩ := h
  rfl
 ·obtain ⟨x, q, m, T, ks, qs, U, rfl, W, hq, hT, hU, lU, hQ⟩ := h
  have lqs := Paired.length hT
  rw [List.length_map] at lqs
  refine ⟨_, pss_one (ps_ret (pe_callB (call_sumI rfl) (by rfl) gsum boot_sum (pa_cons (pe_comp (g := gTup K 2 (gCons (gName 1) (gCons (gName 2) gNil))) (own := [".0", "a", "b"]) (caps := ["web"]) (js := [0]) rfl capsO (pi_list (pv 1))
    (fun pins C s H1 fp => pg_tup (n := 2) rfl (pgs_cons (pg_name (i := 1) nd_ownO rfl (Or.inl rfl) (Or.inr rfl)) (pgs_cons (pg_name (i := 2) nd_ownO rfl (Or.inl rfl) (Or.inr rfl)) pgs_nil)))
    (fun pins C s H1 fp => pts_nil)
    (fun pins C s H1 fp => pe_meth (pv 3) T0.cl mG GG hr bG .nil pass0 (pa_cons (pv 1) (pa_cons (pv 2) pa_nil)))) pa_nil))), ?_⟩
  refine ⟨_, rfl, q, rfl, ⟨_, SqL.of hq⟩, fun D hD => ?_⟩
  refine turns_list (K := K) (a := q) (xs := qs.map V.ref) (fun i ys σ H2 => ∃ (e0 e1 e2 : Option V), ys = ((U.take i).map fun u => u.2.2).map V.int /\ σ = [e0, e1, e2, some (.ref x)] /\ Same H H2 /\ H2 D = some (.lst ys)) ⟨none, none, none, rfl, rfl, Same.new hD, upd_same⟩ ?_ ?_ ?_
  ·rintro i ys σ H2 ⟨e0, e1, e2, rfl, rfl, s2, h2⟩
   refine ⟨h2, small1000 ?_, SqL.of (s2 q _ hq)⟩
   rw [List.length_map, List.length_map, List.length_take]
   (first | lia | omega)
  ·rintro i y ys σ H2 hi ⟨e0, e1, e2, rfl, rfl, s2, h2⟩
   have hil : i < (qs.map V.ref).length := (List.getElem?_eq_some_iff.mp hi).1
   refine gz9 fun _ bk0 => ?_
   obtain ⟨r, t, rfl, et, hr2⟩ := tup_at (TupsH.same s2 hT) hi
   refine bk0 ?_
   rw [List.getElem?_map] at et
   obtain ⟨u, eu, rfl⟩ : ∃ u, U[i]? = some u /\ Mt.key u = t := by
    cases z : U[i]? with
    | none => rw [z] at et; cases et
    | some u => rw [z] at et; exact ⟨u, rfl, Option.some.inj et⟩
   refine ⟨r, _, rfl, SqT.of hr2, rfl, _, _, rfl, _, _, rfl, rfl, ?_⟩
   dsimp only
   refine yes_of ?_
   refine gz9 fun _ bk0 => ?_
   obtain ⟨dx, _, _, _, fs, _, w1, _, _, _, _, w6, _⟩ := (W.same s2).ex
   refine bk0 ?_
   refine ⟨_, rfl, x, dx, fs, rfl, w1, w6.2.2.1, _, rfl, _, rfl, x, m, T, ks, _, _, rfl, W.same s2, fun H3 s3 => ?_⟩
   rw [wtV_of W.ok (hU u (List.mem_of_getElem? eu))]
   have h3 := s3 D _ h2
   refine ⟨h3, Nxt.mk hil ⟨_, _, _, ?_, rfl, fun b o e => ?_, upd_same⟩⟩
   ·rw [List.take_succ, eu, List.map_append, List.map_append]; rfl
   ·rw [upd_ne (ne_of_none e hD)]
    exact s3 b o (s2 b o e)
  ·rintro ys σ H2 ⟨e0, e1, e2, rfl, rfl, s2, h2⟩
   rw [List.length_map, lqs, List.take_length] at h2
   exact ⟨D, _, rfl, SqL.of h2, hQ H2 s2⟩
end
end K29
namespace K29
open PySem L2 PyProof.Rows
section
variable {P : Program} {w : World} {K : W.Frag} {mg : Str -> Option Value} {base : Heap}
noncomputable def spLends : Sp := fun vs H Q _ => ∃ c m : Int, vs = [.int c, .int m] /\ 0 < m /\ m <= 24 /\ ∀ (p : Addr) (a b r : Int), H p = none -> 0 <= a -> a < m -> 0 <= b -> b < m -> Q (.ref p) (upd H p (.tup [.int a, .int b, .int r]))
noncomputable abbrev nmE : List Str := ["_law_cell", "_law_many", "_law_rest"]
theorem scLends : FnScope nmE ["_law_cell", "_law_many"] (defScope sLends) := ⟨rfl, rfl, rfl, by decide +kernel, rfl, by decide +kernel, by decide +kernel⟩
theorem ok_lends {f fD : Addr} {fd fdD : FuncData} (F : Fun K "_law_ends" "_law_ends" sLends f fd)
  (GD : FnOk P w K mg base CX0 1 fD fdD ["_law_cell", "_law_factor", "_law_many"] spDrawn) (mD : mg "_law_drawn" = some (.ref fD)) (kD : PySem.W.keepIn K (.ref fD) = true) (bD : Binds K fdD ["_law_cell", "_law_factor", "_law_many"] []) : FnOk P w K mg base CX0 2 f fd ["_law_cell", "_law_many"] spLends := by
 refine F.ok scLends (fun vs H Q E h => ?_) (fun cdv A outer s H vs Q E hr h => ?_)
 ·obtain ⟨c, m, rfl, _⟩ := h
  rfl
 ·obtain ⟨c, m, rfl, m0, m1, hQ⟩ := h
  refine' ⟨_, pss_cons (ps_if ?c0 (pss_cons ?b0 (pss_one ?b1)) pss_nil) (pss_one ?s1), ?_⟩
  case c0 => exact (pw_and (pt_cmpR op_eq (pe_op op_mod (pv 0) pe_int) pe_int (nomark _)) (pw_and1 (pt_cmpR op_gt (pv 0) (pe_op op_mul (pe_op op_mul pe_int (pv 1)) (pv 1)) (nomark _)))).pt
  case b0 => exact ps_set (i := 2) scLends.nd rfl (Or.inl rfl) (pe_op op_fdiv (pv 0) pe_int)
  case b1 => exact ps_ret (pe_tup (pa_cons (pe_op op_mod (pv 2) (pv 1)) (pa_cons (pe_op op_mod (pe_op op_fdiv (pv 2) (pv 1)) (pv 1)) (pa_cons (pe_op op_fdiv (pe_op op_fdiv (pv 2) (pv 1)) (pv 1)) pa_nil))))
  case s1 => exact ps_ret (pe_tup (pa_cons (pe_call GD hr (by rfl) mD kD bD .nil pass0 (pa_cons (pv 0) (pa_cons pe_int (pa_cons (pv 1) pa_nil)))) (pa_cons (pe_call GD hr (by rfl) mD kD bD .nil pass0 (pa_cons (pv 0) (pa_cons pe_int (pa_cons (pv 1) pa_nil)))) (pa_cons (pv 0) pa_nil))))
  rw [show L2.start nmE [V.int c, .int m] = [some (.int c), some (.int m), none] from rfl]
  have plain : (tRet (tTup (tCons (tCall spDrawn [] E0 (tCons (tVar 0) (tCons (tC (V.int 69621)) (tCons (tVar 1) tNil)))) (tCons (tCall spDrawn [] E0 (tCons (tVar 0) (tCons (tC (V.int 16807)) (tCons (tVar 1) tNil)))) (tCons (tVar 0) tNil))))) { nx := fun _ H' => Q .non H', rt := Q } [some (.int c), some (.int m), none] H := by
   refine ⟨_, rfl, _, rfl, c, _, m, rfl, by decide, by decide, m0, fun a a0 a1 => ⟨_, rfl, _, rfl, c, _, m, rfl, by decide, by decide, m0, fun b b0 b1 => ⟨_, rfl, (by show 3 <= sizeLine; decide), fun p hp => ?_⟩⟩⟩
   exact hQ p a b c hp a0 a1 b0 b1
  refine ⟨_, rfl, _, _, rfl, rfl, (by show (0 : Int) < 2; decide), rfl, _, rfl, ?_⟩
  refine ite2 (fun _ => ?_) (fun _ => iteF plain)
  refine ⟨_, rfl, _, rfl, _, _, rfl, rfl, .inl ⟨by decide, by decide⟩, _, rfl, _, _, rfl, rfl, .inr ⟨by (first | lia | omega), by (first | lia | omega)⟩, _, _, rfl, rfl, _, rfl, ?_⟩
  refine ite2 (fun _ => ?_) (fun _ => plain)
  refine ⟨_, rfl, _, _, rfl, rfl, ⟨by decide, by decide⟩, ?_⟩
  dsimp only [gName, List.set_cons_succ, List.set_cons_zero]
  refine ⟨_, rfl, _, rfl, _, _, rfl, rfl, m0, _, rfl, _, rfl, _, _, rfl, rfl, ⟨m0, by (first | lia | omega)⟩, _, rfl, _, _, rfl, rfl, m0, _, rfl, _, rfl, _, _, rfl, rfl, ⟨m0, by (first | lia | omega)⟩, _, rfl, _, _, rfl, rfl, ⟨m0, by (first | lia | omega)⟩, (by show 3 <= sizeLine; decide), fun p hp => ?_⟩
  exact hQ p _ _ _ hp (Int.emod_nonneg _ (by (first | lia | omega))) (Int.emod_lt_of_pos _ m0) (Int.emod_nonneg _ (by (first | lia | omega))) (Int.emod_lt_of_pos _ m0)
noncomputable def spMore (K : W.Frag) : Sp := fun vs H Q _ => ∃ (d a : Addr) (m : Int) (ns : List Int) (T : List Mt.Tri), vs = [.ref d, .ref a, .int m] /\ H d = some (.dT (wd T)) /\ SqL K H a (ns.map V.int) /\ ns.length <= 63 /\ 0 < m /\ m <= 24 /\ Mt.Dt m T /\ T.length <= 200 ∧
 ∀ (T' : List Mt.Tri) (H' : Hp), (∀ b o, H b = some o -> b ≠ d -> H' b = some o) -> H' d = some (.dT (wd T')) -> Mt.Dt m T' -> (∀ k ∈ T.map Mt.key, k ∈ T'.map Mt.key) -> T'.length <= T.length + 63 -> Q .non H'
noncomputable abbrev nmM : List Str := ["_law_ties", "_law_script", "_law_many", "_law_cell", "_law_a", "_law_b", "_law_rest"]
theorem scMore : FnScope nmM ["_law_ties", "_law_script", "_law_many"] (defScope sMore) := ⟨rfl, rfl, rfl, by decide +kernel, rfl, by decide +kernel, by decide +kernel⟩
theorem ok_more {f fT fL fW : Addr} {fd fdT fdL fdW : FuncData} (F : Fun K "_law_more" "_law_more" sMore f fd)
  (GT : FnOk P w K mg base CX0 1 fT fdT ["_law_a", "_law_b"] spTie) (mT : mg "_law_tie" = some (.ref fT)) (kT : PySem.W.keepIn K (.ref fT) = true) (bT : Binds K fdT ["_law_a", "_law_b"] [])
  (GL : FnOk P w K mg base CX0 2 fL fdL ["_law_cell", "_law_many"] spLends) (mL : mg "_law_ends" = some (.ref fL)) (kL : PySem.W.keepIn K (.ref fL) = true) (bL : Binds K fdL ["_law_cell", "_law_many"] [])
  (GW : FnOk P w K mg base CX0 1 fW fdW ["_law_cell"] spLw) (mW : mg "_law_weight" = some (.ref fW)) (kW : PySem.W.keepIn K (.ref fW) = true) (bW : Binds K fdW ["_law_cell"] []) :
  FnOk P w K mg base CX0 3 f fd ["_law_ties", "_law_script", "_law_many"] (spMore K) := by
 refine F.ok scMore (fun vs H Q E h => ?_) (fun cdv A outer s H vs Q E hr h => ?_)
 ·obtain ⟨d, a, m, ns, T, rfl, _⟩ := h
  rfl
 ·obtain ⟨d, a, m, ns, T, rfl, hd, hS, hns, m0, m24, hT, lT, hQ⟩ := h
  have hu := hu_of hr
  have hr1 : Room 1 (cxOf CX0 P w K mg base nmM "_law_more" (defScope sMore) f cdv A outer s H E).nox.A := hr.mono (by decide)
  refine' ⟨_, pss_one (ps_for ?qa ?qb ?qc ?qd ?qe), ?_⟩
  case qa => exact PassesOwn.never
  case qb => exact rfl
  case qc => exact pi_list (pe_slice sl_list (pv 1) (po_some pe_int) (po_some pe_int))
  case qd => exact pg_name (i := 3) scMore.nd rfl (Or.inl rfl)
  case qe =>
   refine' pss_cons ?e0 (pss_one ?e1)
   case e0 => exact ps_asg (pe_call GL hr (by rfl) mL kL bL .nil pass0 (pa_cons (pv 3) (pa_cons (pv 2) pa_nil))) (pg_tup (n := 3) rfl (pgs_cons (pg_name (i := 4) scMore.nd rfl (Or.inl rfl)) (pgs_cons (pg_name (i := 5) scMore.nd rfl (Or.inl rfl)) (pgs_cons (pg_name (i := 6) scMore.nd rfl (Or.inl rfl)) pgs_nil))))
   case e1 => exact ps_if (pw_and (pt_cmpR op_ne (pv 4) (pv 5) (nomark _)) (pw_and1 (pt_cmp (pc_dnotin hu (pe_call GT hr1 (by rfl) mT kT bT .nil pass0 (pa_cons (pv 4) (pa_cons (pv 5) pa_nil))) (pv 0)) (by with_unfolding_all rfl)))).pt (pss_one (ps_dput hu (pv 0) (pe_call GT hr1 (by rfl) mT kT bT .nil pass0 (pa_cons (pv 4) (pa_cons (pv 5) pa_nil))) (pe_call GW hr1 (by rfl) mW kW bW .nil pass0 (pa_cons (pv 6) pa_nil)) rfl)) pss_nil
  refine ⟨_, rfl, _, rfl, _, rfl, a, _, rfl, hS, fun l hl => ?_⟩
  have lc : (cutV (ns.map V.int) (some 1) (some 120)).length <= 63 := by
   have := cutV_length (ns.map V.int) (some 1) (some 120)
   rw [List.length_map] at this
   (first | lia | omega)
  have hci := cut_int ns (some 1) (some 120)
  generalize cutV (ns.map V.int) (some 1) (some 120) = cut at lc hci ⊢
  have s0 : Same H (upd H l (.lst cut)) := Same.new hl
  have nld : l ≠ d := (ne_of_none hd hl).symm
  refine ⟨l, rfl, ⟨_, SqL.of upd_same⟩, for_list (K := K) (a := l) (xs := cut)
   (fun i σ H2 => ∃ (T' : List Mt.Tri) (e3 e4 e5 e6 : Option V), σ = [some (.ref d), some (.ref a), some (.int m), e3, e4, e5, e6] /\ (∀ b o, H b = some o -> b ≠ d -> H2 b = some o) /\ H2 l = some (.lst cut) /\ H2 d = some (.dT (wd T')) /\ Mt.Dt m T' /\ (∀ k ∈ T.map Mt.key, k ∈ T'.map Mt.key) /\ T'.length <= T.length + i)
   ⟨T, none, none, none, none, rfl, fun b o e _ => s0 b o e, upd_same, s0 d _ hd, hT, fun k hk => hk, Nat.le_refl _⟩ (fun i σ H2 _ h2 => by obtain ⟨_, _, _, _, _, _, _, hl2, _⟩ := h2; exact SqL.of hl2) ?_ ?_⟩
  ·rintro i x σ H2 hi ⟨T', e3, e4, e5, e6, rfl, k2, hl2, hd2, hT2, sub, lT2⟩
   have hil : i < 63 := Nat.lt_of_lt_of_le (List.getElem?_eq_some_iff.mp hi).1 lc
   obtain ⟨z, rfl⟩ := hci i x hi
   dsimp only [gName, List.set_cons_succ, List.set_cons_zero]
   refine ⟨_, rfl, _, rfl, z, m, rfl, m0, m24, fun p a1 b1 r1 np a0 a1' b0 b1' => ?_⟩
   have s3 : Same H2 (upd H2 p (.tup [.int a1, .int b1, .int r1])) := Same.new np
   have hp3 : upd H2 p (.tup [.int a1, .int b1, .int r1]) p = some (.tup [.int a1, .int b1, .int r1]) := upd_same
   generalize upd H2 p (.tup [.int a1, .int b1, .int r1]) = H3 at s3 hp3 ⊢
   refine ⟨p, _, rfl, SqT.of hp3, rfl, _, _, rfl, _, _, rfl, _, _, rfl, rfl, ?_⟩
   dsimp only [gName, List.set_cons_succ, List.set_cons_zero]
   have hd3 := s3 d _ hd2
   have hl3 := s3 l _ hl2
   have k3 : ∀ b o, H b = some o -> b ≠ d -> H3 b = some o := fun b o e n => s3 b o (k2 b o e n)
   refine ⟨_, rfl, _, rfl, rfl, _, rfl, ?_⟩
   by_cases nab : a1 = b1
   ·exact iteNS (congrArg V.int nab) (iteF ⟨T', _, _, _, _, rfl, k3, hl3, hd3, hT2, sub, by (first | lia | omega)⟩)
   refine iteNN' (fun z => nab (by injection z)) ?_
   refine ⟨_, rfl, _, rfl, a1, b1, rfl, fun y hy => ?_⟩
   have s4 : Same H3 (upd H3 y (.tup [.int (Mt.lo a1 b1), .int (Mt.hi a1 b1)])) := Same.new hy
   have hy4 : upd H3 y (.tup [.int (Mt.lo a1 b1), .int (Mt.hi a1 b1)]) y = some (.tup [.int (Mt.lo a1 b1), .int (Mt.hi a1 b1)]) := upd_same
   generalize upd H3 y (.tup [.int (Mt.lo a1 b1), .int (Mt.hi a1 b1)]) = H4 at s4 hy4 ⊢
   have hd4 := s4 d _ hd3
   have hl4 := s4 l _ hl3
   have k4 : ∀ b o, H b = some o -> b ≠ d -> H4 b = some o := fun b o e n => s4 b o (k3 b o e n)
   refine ⟨_, rfl, d, _, rfl, DGet.t (k := [Mt.lo a1 b1, Mt.hi a1 b1].map Sum.inl) hd4 hy4, _, rfl, ?_⟩
   refine ite2 (fun _ => ?_) (fun _ => ⟨T', _, _, _, _, rfl, k4, hl4, hd4, hT2, sub, by (first | lia | omega)⟩)
   have r := Mt.key_range (m := m) (t := (a1, b1, 0)) (by unfold Mt.bad; show ¬ (a1 < 0 \/ m <= a1 \/ b1 < 0 \/ m <= b1 \/ a1 = b1); (first | lia | omega))
   refine ⟨_, rfl, r1, rfl, fun n => ⟨_, rfl, _, rfl, _, rfl, a1, b1, rfl, fun y2 hy2 => ?_⟩⟩
   have s5 : Same H4 (upd H4 y2 (.tup [.int (Mt.lo a1 b1), .int (Mt.hi a1 b1)])) := Same.new hy2
   have hy5 : upd H4 y2 (.tup [.int (Mt.lo a1 b1), .int (Mt.hi a1 b1)]) y2 = some (.tup [.int (Mt.lo a1 b1), .int (Mt.hi a1 b1)]) := upd_same
   generalize upd H4 y2 (.tup [.int (Mt.lo a1 b1), .int (Mt.hi a1 b1)]) = H5 at s5 hy5 ⊢
   refine ⟨d, _, rfl, DPut.t (k := [Mt.lo a1 b1, Mt.hi a1 b1].map Sum.inl) (s5 d _ hd4) hy5 (small1000 (by unfold wd; rw [List.length_map]; (first | lia | omega))), ?_⟩
   refine gz9 fun _ bk0 => ?_
   obtain ⟨T2, ep, hT2', hk2, l2⟩ := Dt.put hT2 (w := n) r.1 r.2.1 r.2.2
   refine bk0 ?_
   rw [show putK (wd T') ([Mt.lo a1 b1, Mt.hi a1 b1].map Sum.inl) (.int n) = wd T2 from ep]
   refine ⟨T2, _, _, _, _, rfl, fun b o e nb => ?_, ?_, upd_same, hT2', fun k hk => (hk2 k).mpr (.inl (sub k hk)), by (first | lia | omega)⟩
   ·rw [upd_ne nb]; exact s5 b o (k4 b o e nb)
   ·rw [upd_ne nld]; exact s5 l _ hl4
  ·rintro σ H2 ⟨T', e3, e4, e5, e6, rfl, k2, hl2, hd2, hT2, sub, lT2⟩
   exact hQ T' H2 k2 hd2 hT2 sub (by (first | lia | omega))
end
end K29
namespace K29
open PySem L2 PyProof.Rows
section
variable {P : Program} {w : World} {K : W.Frag} {mg : Str -> Option Value} {base : Heap}
noncomputable def spCut (K : W.Frag) : Sp := fun vs H Q _ => ∃ (a o : Addr) (ns os : List Int), vs = [.ref a, .ref o] /\ SqL K H a (ns.map V.int) /\ H o = some (.lst (os.map V.int)) /\ os.length <= 24 ∧
 ∀ (g : Addr) (gs : List Addr) (Gs : List (List Int)) (H' : Hp), Same H H' -> H' g = some (.lst (gs.map V.ref)) -> LsH H' gs Gs -> Gs.flatten = os -> (∀ G ∈ Gs, G.length % 2 = 1) -> Q (.ref g) H'
noncomputable abbrev nmC : List Str := ["_law_script", "_law_order_here", "_law_groups", "_law_at", "_law_k", "_law_size"]
theorem scCut : FnScope nmC ["_law_script", "_law_order_here"] (defScope sCut) := ⟨rfl, rfl, rfl, by decide +kernel, rfl, by decide +kernel, by decide +kernel⟩
theorem len_le {Gs : List (List Int)} (h : ∀ G ∈ Gs, G.length % 2 = 1) : Gs.length <= Gs.flatten.length := by
 induction Gs with
 | nil => exact Nat.zero_le _
 | cons G Gs ih =>
  have := ih fun G hG => h G (.tail _ hG)
  have := h G (.head _)
  rw [List.flatten_cons, List.length_append, List.length_cons]
  (first | lia | omega)
theorem ok_cut {f fC fD : Addr} {fd fdC fdD : FuncData} (F : Fun K "_law_cut" "_law_cut" sCut f fd) (glen : mg "len" = none)
  (GC : FnOk P w K mg base CX0 1 fC fdC ["_law_script", "_law_k"] (spCell K)) (mC : mg "_law_cell_at" = some (.ref fC)) (kC : PySem.W.keepIn K (.ref fC) = true) (bC : Binds K fdC ["_law_script", "_law_k"] [])
  (GD : FnOk P w K mg base CX0 1 fD fdD ["_law_cell", "_law_factor", "_law_many"] spDrawn) (mD : mg "_law_drawn" = some (.ref fD)) (kD : PySem.W.keepIn K (.ref fD) = true) (bD : Binds K fdD ["_law_cell", "_law_factor", "_law_many"] []) :
  FnOk P w K mg base CX0 2 f fd ["_law_script", "_law_order_here"] (spCut K) := by
 refine F.ok scCut (fun vs H Q E h => ?_) (fun cdv A outer s H vs Q E hr h => ?_)
 ·obtain ⟨a, o, ns, os, rfl, _⟩ := h
  rfl
 ·obtain ⟨a, o, ns, os, rfl, hS, ho, lo, hQ⟩ := h
  refine' ⟨_, pss_cons ?s0 (pss_cons ?s1 (pss_cons ?s2 (pss_cons (ps_while PassesOwn.never ?c0 (pss_cons ?b0 (pss_cons (ps_while PassesOwn.never ?c1 (pss_one ?d0)) (pss_cons ?b2 (pss_cons ?b3 (pss_one ?b4)))))) (pss_one (ps_ret (pv 2)))))), ?_⟩
  case s0 => exact ps_set (i := 2) scCut.nd rfl (Or.inl rfl) (pe_lst pa_nil)
  case s1 => exact ps_set (i := 3) scCut.nd rfl (Or.inl rfl) pe_int
  case s2 => exact ps_set (i := 4) scCut.nd rfl (Or.inl rfl) pe_int
  case c0 => exact pt_cmpR op_lt (pv 3) (pe_callB call_len_seq (by rfl) glen PySem.boot_len (pa_cons (pv 1) pa_nil)) (nomark _)
  case b0 => exact ps_set (i := 5) scCut.nd rfl (Or.inl rfl) (pe_op op_add pe_int (pe_op op_mul pe_int (pe_call GD hr (by rfl) mD kD bD .nil pass0 (pa_cons (pe_op op_add (pe_call GC hr (by rfl) mC kC bC .nil pass0 (pa_cons (pv 0) (pa_cons (pv 4) pa_nil))) (pv 4)) (pa_cons pe_int (pa_cons pe_int pa_nil))))))
  case c1 => exact pt_cmpR op_gt (pv 5) (pe_op op_sub (pe_callB call_len_seq (by rfl) glen PySem.boot_len (pa_cons (pv 1) pa_nil)) (pv 3)) (nomark _)
  case d0 => exact ps_set (i := 5) scCut.nd rfl (Or.inl rfl) (pe_op op_sub (pv 5) pe_int)
  case b2 => exact ps_expr (pe_bm PySem.F.plainAttrs_list PySem.F.slot_list_append PySem.F.type_list_append mt_append (pv 2) (pa_cons (pe_slice sl_list (pv 1) (po_some (pv 3)) (po_some (pe_op op_add (pv 3) (pv 5)))) pa_nil))
  case b3 => exact ps_set (i := 3) scCut.nd rfl (Or.inl rfl) (pe_op op_add (pv 3) (pv 5))
  case b4 => exact ps_set (i := 4) scCut.nd rfl (Or.inl rfl) (pe_op op_add (pv 4) pe_int)
  rw [show L2.start nmC [V.ref a, .ref o] = [some (.ref a), some (.ref o), none, none, none, none] from rfl]
  refine ⟨Nat.zero_le _, fun g ng => ?_⟩
  have s1 : Same H (upd H g (.lst [])) := Same.new ng
  have hg1 : upd H g (.lst []) g = some (.lst []) := upd_same
  dsimp only [gName, List.set_cons_succ, List.set_cons_zero]
  generalize upd H g (.lst []) = H1 at s1 hg1 ⊢
  refine ⟨fun n σ H2 => ∃ (at_ k : Nat) (gs : List Addr) (Gs : List (List Int)) (e5 : Option V), n = os.length - at_ /\ σ = [some (.ref a), some (.ref o), some (.ref g), some (.int at_), some (.int k), e5] /\ Same H H2 /\ H2 g = some (.lst (gs.map V.ref)) /\ LsH H2 gs Gs /\ Gs.flatten = os.take at_ /\ (∀ G ∈ Gs, G.length % 2 = 1) /\ at_ <= os.length /\ ∀ q ∈ gs, q ≠ g, ⟨_, 0, 26, [], [], none, rfl, rfl, s1, hg1, .nil, rfl, fun G hG => (nomatch hG), Nat.zero_le _, fun q hq => (nomatch hq)⟩, ?_⟩
  rintro n σ H2 ⟨at_, k, gs, Gs, e5, rfl, rfl, s2, hg2, hL, fl, od, la, nq⟩
  refine ⟨_, rfl, _, rfl, o, _, rfl, .inl (SqL.of (s2 o _ ho)), _, _, rfl, rfl, _, rfl, ?_⟩
  rw [List.length_map]
  refine ite2 (fun c => ?_) (fun c => ?_)
  case refine_2 =>
   have c : ¬ (at_ : Int) < os.length := fun z => c (decide_eq_true z)
   rw [List.take_of_length_le (by (first | lia | omega))] at fl
   exact ⟨_, rfl, hQ g gs Gs H2 s2 hg2 hL fl od⟩
  have c : (at_ : Int) < os.length := of_decide_eq_true c
  refine ⟨fun σ' H' => ∃ (at' k : Nat) (gs : List Addr) (Gs : List (List Int)) (e5 : Option V), at_ < at' /\ σ' = [some (.ref a), some (.ref o), some (.ref g), some (.int at'), some (.int k), e5] /\ Same H H' /\ H' g = some (.lst (gs.map V.ref)) /\ LsH H' gs Gs /\ Gs.flatten = os.take at' /\ (∀ G ∈ Gs, G.length % 2 = 1) /\ at' <= os.length /\ ∀ q ∈ gs, q ≠ g, fun σ' H' h => ?_, ?_⟩
  ·obtain ⟨at', k, gs, Gs, e5, l, rest⟩ := h
   exact ⟨_, by (first | lia | omega), at', k, gs, Gs, e5, rfl, rest⟩
  refine ⟨_, rfl, _, rfl, a, ns, k, rfl, by (first | lia | omega), s2.seq hS, fun nn => ⟨_, rfl, _, _, rfl, rfl, _, _, 5, rfl, by decide, by decide, by decide, fun dd d0 d5 => ⟨_, _, rfl, rfl, .inl ⟨by decide, by decide⟩, _, _, rfl, rfl, ?_⟩⟩⟩
  dsimp only [gName, List.set_cons_succ, List.set_cons_zero]
  obtain ⟨sz, esz⟩ : ∃ sz : Nat, 1 + 2 * dd = (sz : Int) /\ sz % 2 = 1 /\ sz <= 9 := ⟨(1 + 2 * dd).toNat, by (first | lia | omega), by (first | lia | omega), by (first | lia | omega)⟩
  rw [esz.1]
  refine ⟨fun n σ H' => ∃ sz : Nat, sz = n /\ sz % 2 = 1 /\ σ = [some (.ref a), some (.ref o), some (.ref g), some (.int at_), some (.int k), some (.int sz)] /\ H2 = H', ⟨_, sz, rfl, esz.2.1, rfl, rfl⟩, ?_⟩
  clear esz sz
  rintro n σ H' ⟨sz, rfl, odd, rfl, rfl⟩
  refine ⟨_, rfl, _, rfl, o, _, rfl, .inl (SqL.of (s2 o _ ho)), _, rfl, _, _, rfl, rfl, _, _, rfl, rfl, _, rfl, ?_⟩
  rw [List.length_map]
  refine ite2 (fun c2 => ?_) (fun c2 => ?_)
  ·have c2 : (os.length : Int) - at_ < sz := of_decide_eq_true c2
   refine ⟨fun σ' H'' => σ' = [some (.ref a), some (.ref o), some (.ref g), some (.int at_), some (.int k), some (.int ((sz - 2 : Nat) : Int))] /\ H2 = H'', fun σ' H'' h => ⟨_, by (first | lia | omega), sz - 2, rfl, by (first | lia | omega), h.1, h.2⟩, ?_⟩
   refine ⟨_, rfl, _, _, rfl, rfl, ?_⟩
   dsimp only [gName, List.set_cons_succ, List.set_cons_zero]
   rw [show (sz : Int) - 2 = ((sz - 2 : Nat) : Int) by (first | lia | omega)]
   exact ⟨rfl, rfl⟩
  ·have c2 : ¬ (os.length : Int) - at_ < sz := fun z => c2 (decide_eq_true z)
   refine ⟨_, rfl, .inl ⟨rfl, _, SqL.of hg2⟩, _, rfl, _, rfl, _, rfl, _, rfl, _, rfl, _, _, rfl, rfl, _, rfl, o, _, rfl, SqL.of (s2 o _ ho), fun q nqn => ?_⟩
   rw [cut_map]
   have ecut : cutA os (some (at_ : Int)) (some ((at_ : Int) + sz)) = (os.drop at_).take sz := by
    unfold cutA
    rw [sIx_lo _ (by (first | lia | omega)), sIx_hi _ (by (first | lia | omega))]
    have e1 : min ((at_ : Int)).toNat os.length = at_ := by (first | lia | omega)
    have e2 : min ((at_ : Int) + sz).toNat os.length = at_ + sz := by (first | lia | omega)
    rw [e1, e2, Nat.add_sub_cancel_left]
   rw [ecut]
   have lN : ((os.drop at_).take sz).length = sz := by rw [List.length_take, List.length_drop]; (first | lia | omega)
   have s3 : Same H2 (upd H2 q (.lst (((os.drop at_).take sz).map V.int))) := Same.new nqn
   have hq3 : upd H2 q (.lst (((os.drop at_).take sz).map V.int)) q = some (.lst (((os.drop at_).take sz).map V.int)) := upd_same
   generalize upd H2 q (.lst (((os.drop at_).take sz).map V.int)) = H3 at s3 hq3 ⊢
   have hg3 := s3 g _ hg2
   have nqg : q ≠ g := (ne_of_none hg2 nqn).symm
   have lgs := Paired.length hL
   have lGs := len_le od
   rw [fl, List.length_take] at lGs
   have ng0 : ∀ b u, H b = some u -> b ≠ g := fun b u e => ne_of_none e ng
   refine ⟨g, _, _, rfl, rfl, hg3, small1000 (by rw [List.length_map]; (first | lia | omega)), ?_⟩
   refine ⟨_, rfl, _, rfl, _, _, rfl, rfl, ?_⟩
   dsimp only [gName, List.set_cons_succ, List.set_cons_zero]
   refine ⟨_, rfl, _, _, rfl, rfl, ?_⟩
   dsimp only [gName, List.set_cons_succ, List.set_cons_zero]
   refine ⟨at_ + sz, k + 1, gs ++ [q], Gs ++ [(os.drop at_).take sz], some (.int sz), by (first | lia | omega), ?_, fun b u e => by rw [upd_ne (ng0 b u e)]; exact s3 b u (s2 b u e), by rw [upd_same, List.map_append]; rfl, ?_, ?_, fun G hG => ?_, by (first | lia | omega), fun z hz => ?_⟩
   ·rw [show ((at_ + sz : Nat) : Int) = (at_ : Int) + sz by (first | lia | omega), show ((k + 1 : Nat) : Int) = (k : Int) + 1 by (first | lia | omega)]
   ·refine paired_snoc (zip_paired lgs fun z hz => ?_) (by rw [upd_ne nqg]; exact hq3)
    rw [upd_ne (nq z.1 (List.of_mem_zip hz).1)]
    exact s3 _ _ (paired_zip hL z hz)
   ·rw [List.flatten_append, fl, List.flatten_cons, List.flatten_nil, List.append_nil, <- List.take_add]
   ·rcases List.mem_append.mp hG with h | h
    ·exact od G h
    ·rw [List.mem_singleton.mp h, lN]; exact odd
   ·rcases List.mem_append.mp hz with h | h
    ·exact nq z h
    ·rw [List.mem_singleton.mp h]; exact nqg
end
end K29
namespace K29
open PySem L2 PyProof.Rows
noncomputable def endsAt (U : List Mt.Tri) (i : Nat) : List Int := [(U.getD i (0, 0, 0)).1, (U.getD i (0, 0, 0)).2.1]
section
variable {P : Program} {w : World} {K : W.Frag} {mg : Str -> Option Value} {base : Heap}
noncomputable def spChosen : Sp := fun vs H Q _ => ∃ (l : Addr) (st pk : Int) (rs : List Addr) (U : List Mt.Tri), vs = [.ref l, .int st, .int pk] /\ H l = some (.lst (rs.map V.ref)) /\ TupsH H rs (U.map Mt.tri) /\ U.length <= 300 /\ (∀ u ∈ U, u.1 ≠ u.2.1) ∧
 ∀ (c : Addr) (is : List Nat) (H' : Hp), H c = none -> Same H H' -> H' c = some (.lst ((is.map fun (i : Nat) => (i : Int)).map V.int)) -> (∀ i ∈ is, i < U.length) -> (is.flatMap (endsAt U)).Nodup -> Q (.ref c) H'
noncomputable abbrev nmH : List Str := ["_law_ties", "_law_start", "_law_pick", "_law_found", "_law_used", "_law_k", "_law_at", "_law_skipped"]
theorem scChosen : FnScope nmH ["_law_ties", "_law_start", "_law_pick"] (defScope sChosen) := ⟨rfl, rfl, rfl, by decide +kernel, rfl, by decide +kernel, by decide +kernel⟩
theorem ok_chosen {f : Addr} {fd : FuncData} (F : Fun K "_law_chosen" "_law_chosen" sChosen f fd) (glen : mg "len" = none) (grange : mg "range" = none) : FnOk P w K mg base CX0 1 f fd ["_law_ties", "_law_start", "_law_pick"] spChosen := by
 refine F.ok scChosen (fun vs H Q E h => ?_) (fun cdv A outer s H vs Q E hr h => ?_)
 ·obtain ⟨l, st, pk, rs, U, rfl, _⟩ := h
  rfl
 ·obtain ⟨l, st, pk, rs, U, rfl, hl, hT, lU, ne, hQ⟩ := h
  refine' ⟨_, pss_cons ?s0 (pss_cons ?s1 (pss_cons (ps_for PassesOwn.never rfl (pi_range1 rfl grange (pa_cons (pe_callB call_len_seq (by rfl) glen PySem.boot_len (pa_cons (pv 0) pa_nil)) pa_nil)) (pg_name (i := 5) scChosen.nd rfl (Or.inl rfl)) (pss_cons ?b0 (pss_cons ?b1 (pss_cons ?b2 (pss_one (ps_if ?c0 (pss_cons ?d0 (pss_cons ?d1 (pss_one ?d2))) pss_nil)))))) (pss_one (ps_ret (pv 3))))), ?_⟩
  case s0 => exact ps_set (i := 3) scChosen.nd rfl (Or.inl rfl) (pe_lst pa_nil)
  case s1 => exact ps_set (i := 4) scChosen.nd rfl (Or.inl rfl) (pe_lst pa_nil)
  case b0 => exact ps_set (i := 6) scChosen.nd rfl (Or.inl rfl) (pe_op op_mod (pe_op op_add (pv 1) (pv 5)) (pe_callB call_len_seq (by rfl) glen PySem.boot_len (pa_cons (pv 0) pa_nil)))
  case b1 => exact ps_set (i := 7) scChosen.nd rfl (Or.inl rfl) (pe_cmpR op_eq (pe_op op_mod (pv 2) pe_int) pe_int (nomark _))
  case b2 => exact ps_set (i := 2) scChosen.nd rfl (Or.inl rfl) (pe_op op_fdiv (pv 2) pe_int)
  case c0 => exact (pw_and (pt_not (pt_val (pv 7))) (pw_and (pt_cmpR op_notIn_seq (pe_ix ix_tup (pe_ix ix_list (pv 0) (pv 6) (fun _ _ => rfl)) pe_int (fun _ _ => rfl)) (pv 4) (by with_unfolding_all rfl)) (pw_and1 (pt_cmpR op_notIn_seq (pe_ix ix_tup (pe_ix ix_list (pv 0) (pv 6) (fun _ _ => rfl)) pe_int (fun _ _ => rfl)) (pv 4) (by with_unfolding_all rfl))))).pt
  case d0 => exact ps_expr (pe_bm PySem.F.plainAttrs_list PySem.F.slot_list_append PySem.F.type_list_append mt_append (pv 4) (pa_cons (pe_ix ix_tup (pe_ix ix_list (pv 0) (pv 6) (fun _ _ => rfl)) pe_int (fun _ _ => rfl)) pa_nil))
  case d1 => exact ps_expr (pe_bm PySem.F.plainAttrs_list PySem.F.slot_list_append PySem.F.type_list_append mt_append (pv 4) (pa_cons (pe_ix ix_tup (pe_ix ix_list (pv 0) (pv 6) (fun _ _ => rfl)) pe_int (fun _ _ => rfl)) pa_nil))
  case d2 => exact ps_expr (pe_bm PySem.F.plainAttrs_list PySem.F.slot_list_append PySem.F.type_list_append mt_append (pv 3) (pa_cons (pv 6) pa_nil))
  rw [show L2.start nmH [V.ref l, .int st, .int pk] = [some (.ref l), some (.int st), some (.int pk), none, none, none, none, none] from rfl]
  have lr := Paired.length hT
  rw [List.length_map] at lr
  refine ⟨Nat.zero_le _, fun c nc => ?_⟩
  have s1 : Same H (upd H c (.lst [])) := Same.new nc
  have hc1 : upd H c (.lst []) c = some (.lst []) := upd_same
  dsimp only [gName, List.set_cons_succ, List.set_cons_zero]
  generalize upd H c (.lst []) = H1 at s1 hc1 ⊢
  refine ⟨Nat.zero_le _, fun u nu => ?_⟩
  have s2 : Same H1 (upd H1 u (.lst [])) := Same.new nu
  have hu2 : upd H1 u (.lst []) u = some (.lst []) := upd_same
  have ncu : c ≠ u := ne_of_none hc1 nu
  dsimp only [gName, List.set_cons_succ, List.set_cons_zero]
  generalize upd H1 u (.lst []) = H2 at s2 hu2 ⊢
  have s02 := s1.trans s2
  have nu0 : H u = none := Dr.none_of s1 nu
  refine ⟨_, rfl, l, _, rfl, .inl (SqL.of (s02 l _ hl)), _, rfl, by rw [List.length_map]; (first | lia | omega), by rw [List.length_map]; (first | lia | omega), ?_⟩
  rw [List.length_map, lr, Int.toNat_natCast]
  refine for_range (lo := 0) (n := U.length) (fun i σ H3 => ∃ (pk : Int) (is : List Nat) (e5 e6 e7 : Option V), σ = [some (.ref l), some (.int st), some (.int pk), some (.ref c), some (.ref u), e5, e6, e7] /\ Same H H3 /\ H3 c = some (.lst ((is.map fun (i : Nat) => (i : Int)).map V.int)) /\ H3 u = some (.lst ((is.flatMap (endsAt U)).map V.int)) /\ (∀ i ∈ is, i < U.length) /\ (is.flatMap (endsAt U)).Nodup /\ is.length <= i /\ (is.flatMap (endsAt U)).length = 2 * is.length)
   ⟨pk, [], none, none, none, rfl, s02, s2 c _ hc1, hu2, fun i hi => (nomatch hi), List.nodup_nil, Nat.le_refl _, rfl⟩ ?_ ?_
  ·rintro i σ H3 hi ⟨pk, is, e5, e6, e7, rfl, s3, hc3, hu3, ri, nd, li, lf⟩
   dsimp only [gName, List.set_cons_succ, List.set_cons_zero]
   have hl3 := s3 l _ hl
   refine ⟨_, rfl, _, rfl, _, _, rfl, rfl, _, rfl, l, _, rfl, .inl (SqL.of hl3), _, _, rfl, rfl, (by rw [List.length_map]; (first | lia | omega)), ?_⟩
   rw [List.length_map, lr]
   have z0 := Int.emod_nonneg (st + (0 + (i : Int))) (show (U.length : Int) ≠ 0 by (first | lia | omega))
   have z1 := Int.emod_lt_of_pos (st + (0 + (i : Int))) (show (0 : Int) < U.length by (first | lia | omega))
   obtain ⟨j, ej⟩ : ∃ j : Nat, (st + (0 + (i : Int))) % (U.length : Int) = j := ⟨((st + (0 + (i : Int))) % (U.length : Int)).toNat, by (first | lia | omega)⟩
   dsimp only [gName, List.set_cons_succ, List.set_cons_zero]
   rw [ej] at z1 ⊢
   have hj : j < U.length := by (first | lia | omega)
   refine ⟨_, rfl, _, _, rfl, rfl, (by show (0 : Int) < 3; decide), rfl, ?_⟩
   dsimp only [gName, List.set_cons_succ, List.set_cons_zero]
   refine ⟨_, rfl, _, _, rfl, rfl, ⟨by decide, by decide⟩, ?_⟩
   dsimp only [gName, List.set_cons_succ, List.set_cons_zero]
   have er : rs[j]? = some (rs[j]'(by (first | lia | omega))) := by simp
   generalize rs[j]'(by (first | lia | omega)) = r at er
   refine gz9 fun _ bk0 => ?_
   obtain ⟨t, et, hr0, _⟩ := Sx.pair_at (i := j) (a := r) hT er
   refine bk0 ?_
   rw [List.getElem?_map, List.getElem?_eq_getElem hj] at et
   have et := (Option.some.inj et).symm
   have hr3 := s3 r _ hr0
   rw [et] at hr3
   have ed : endsAt U j = [U[j].1, U[j].2.1] := by unfold endsAt; rw [List.getD_eq_getElem?_getD, List.getElem?_eq_getElem hj]; rfl
   have nej := ne _ (List.getElem_mem hj)
   generalize U[j] = v at hr3 ed nej
   have atr : atI (rs.map V.ref) (j : Int) = some (V.ref r) := atI_nat (by rw [List.getElem?_map, er]; rfl)
   have skip : ∃ (pk' : Int) (is' : List Nat) (e5 e6 e7 : Option V), [some (V.ref l), some (.int st), some (.int (pk / 3)), some (.ref c), some (.ref u), some (.int (0 + (i : Int))), some (.int (j : Int)), some (V.bl (decide (V.int (pk % 3) = V.int 1)))] = [some (.ref l), some (.int st), some (.int pk'), some (.ref c), some (.ref u), e5, e6, e7] /\ Same H H3 /\ H3 c = some (.lst ((is'.map fun (i : Nat) => (i : Int)).map V.int)) /\ H3 u = some (.lst ((is'.flatMap (endsAt U)).map V.int)) /\ (∀ i ∈ is', i < U.length) /\ (is'.flatMap (endsAt U)).Nodup /\ is'.length <= i + 1 /\ (is'.flatMap (endsAt U)).length = 2 * is'.length := ⟨_, is, _, _, _, rfl, s3, hc3, hu3, ri, nd, by (first | lia | omega), lf⟩
   refine ⟨_, rfl, _, rfl, ?_⟩
   refine ite2 (fun _ => ?_) (fun _ => iteF skip)
   refine ⟨_, rfl, _, rfl, l, _, _, _, rfl, rfl, SqL.of hl3, atr, r, _, _, _, rfl, rfl, SqT.of hr3, (show _ = some (V.int v.1) from rfl), _, rfl, u, _, rfl, .inl (SqL.of hu3), rfl, flat_ints _, _, rfl, ?_⟩
   rw [if_pos rfl, inV_ints]
   refine ite2 (fun c1 => ?_) (fun _ => iteF skip)
   refine ⟨_, rfl, _, rfl, l, _, _, _, rfl, rfl, SqL.of hl3, atr, r, _, _, _, rfl, rfl, SqT.of hr3, (show _ = some (V.int v.2.1) from rfl), _, rfl, u, _, rfl, .inl (SqL.of hu3), rfl, flat_ints _, _, rfl, ?_⟩
   rw [if_pos rfl, inV_ints]
   refine ite2 (fun c2 => ?_) (fun _ => skip)
   have c1 : v.1 ∉ is.flatMap (endsAt U) := by simpa using c1
   have c2 : v.2.1 ∉ is.flatMap (endsAt U) := by simpa using c2
   have lU' : is.length <= 300 := by (first | lia | omega)
   refine ⟨_, rfl, .inl ⟨rfl, _, SqL.of hu3⟩, _, rfl, _, rfl, l, _, _, _, rfl, rfl, SqL.of hl3, atr, r, _, _, _, rfl, rfl, SqT.of hr3, (show _ = some (V.int v.1) from rfl), u, _, _, rfl, rfl, hu3, small1000 (by rw [List.length_map]; (first | lia | omega)), ?_⟩
   have k4 : ∀ (L : List V) (b : Addr) (o : HO), b ≠ u -> H3 b = some o -> upd H3 u (.lst L) b = some o := fun L b o n e => by rw [upd_ne n]; exact e
   have nlu : l ≠ u := ne_of_none hl nu0
   have nru : r ≠ u := ne_of hr3 hu3 (by intro z; cases z)
   refine ⟨_, rfl, .inl ⟨rfl, _, SqL.of upd_same⟩, _, rfl, _, rfl, l, _, _, _, rfl, rfl, SqL.of (k4 _ l _ nlu hl3), atr, r, _, _, _, rfl, rfl, SqT.of (k4 _ r _ nru hr3), (show _ = some (V.int v.2.1) from rfl), u, _, _, rfl, rfl, upd_same, small1000 (by rw [List.length_append, List.length_map, List.length_singleton]; (first | lia | omega)), ?_⟩
   rw [upd_upd]
   refine ⟨_, rfl, .inl ⟨rfl, _, SqL.of (k4 _ c _ ncu hc3)⟩, _, rfl, c, _, _, rfl, rfl, k4 _ c _ ncu hc3, small1000 (by rw [List.length_map, List.length_map]; (first | lia | omega)), ?_⟩
   have ef : (is ++ [j]).flatMap (endsAt U) = is.flatMap (endsAt U) ++ [v.1, v.2.1] := by rw [List.flatMap_append, List.flatMap_cons, List.flatMap_nil, List.append_nil, ed]
   refine ⟨_, is ++ [j], _, _, _, rfl, fun b o e => by rw [upd_ne (ne_of_none e nc), upd_ne (ne_of_none e nu0)]; exact s3 b o e, by rw [upd_same, List.map_append, List.map_append]; rfl, ?_, fun i' hi' => ?_, ?_, by rw [List.length_append, List.length_singleton]; (first | lia | omega), ?_⟩
   ·rw [upd_ne ncu.symm, upd_same, ef, List.map_append, List.append_assoc]
    rfl
   ·rcases List.mem_append.mp hi' with h | h
    ·exact ri i' h
    ·rw [List.mem_singleton.mp h]; exact hj
   ·rw [ef, List.nodup_append]
    refine ⟨nd, by simp [nej], fun x hx y hy z => ?_⟩
    subst z
    rcases List.mem_cons.mp hy with h | h
    ·exact c1 (h ▸ hx)
    ·exact c2 ((List.mem_singleton.mp h) ▸ hx)
   ·rw [ef, List.length_append, lf, List.length_append]
    show _ + 2 = 2 * (_ + 1)
    (first | lia | omega)
  ·rintro σ H3 ⟨pk, is, e5, e6, e7, rfl, s3, hc3, hu3, ri, nd, li, lf⟩
   exact ⟨_, rfl, hQ c is H3 nc s3 hc3 ri nd⟩
end
end K29
namespace K29
open PySem L2 PyProof.Rows
theorem wd_has {T : List Mt.Tri} {k : List Int} : (valV (wd T) (k.map Sum.inl)).isSome = true ↔ k ∈ T.map Mt.key := by
 unfold valV
 rw [Option.isSome_map, List.find?_isSome]
 unfold wd
 constructor
 ·rintro ⟨kv, hkv, e⟩
  obtain ⟨t, ht, rfl⟩ := List.mem_map.mp hkv
  have : Mt.key t = k := inl_inj (of_decide_eq_true e)
  exact List.mem_map.mpr ⟨t, ht, this⟩
 ·intro h
  obtain ⟨t, ht, rfl⟩ := List.mem_map.mp h
  exact ⟨_, List.mem_map.mpr ⟨t, ht, rfl⟩, decide_eq_true rfl⟩
section
variable {P : Program} {w : World} {K : W.Frag} {mg : Str -> Option Value} {base : Heap}
noncomputable def spLis : Sp := fun vs H Q _ => ∃ (d q : Addr) (o : Obj) (T : List Mt.Tri) (qs : List Addr) (ts : List (List Int)), vs = [.ref d, .ref q] /\ H d = some (.frz o (.dT (wd T))) /\ H q = some (.lst (qs.map V.ref)) /\ TupsH H qs ts /\ (∀ t ∈ ts, t ∈ T.map Mt.key) /\ ts.flatten.Nodup /\ ts.length <= 100 /\ ∀ H', Same H H' -> Q (.bl true) H'
noncomputable abbrev nmJ : List Str := ["_law_ties", "_law_pairs", "_law_used", "_law_a", "_law_b"]
theorem scLis : FnScope nmJ ["_law_ties", "_law_pairs"] (defScope sLis) := ⟨rfl, rfl, rfl, by decide +kernel, rfl, by decide +kernel, by decide +kernel⟩
theorem ok_lis {f : Addr} {fd : FuncData} (F : Fun K "_law_is_choice" "_law_is_choice" sLis f fd) : FnOk P w K mg base CX0 1 f fd ["_law_ties", "_law_pairs"] spLis := by
 refine F.ok scLis (fun vs H Q E h => ?_) (fun cdv A outer s H vs Q E hr h => ?_)
 ·obtain ⟨d, q, o, T, qs, ts, rfl, _⟩ := h
  rfl
 ·obtain ⟨d, q, o, T, qs, ts, rfl, hd, hq, hT, hk, nd, lt, hQ⟩ := h
  have hu := hu_of hr
  refine' ⟨_, pss_cons ?s0 (pss_cons (ps_for PassesOwn.never rfl (pi_list (pv 1)) ?qd (pss_cons (ps_if ?c0 (pss_one (ps_ret pe_bl)) pss_nil) (pss_cons ?d0 (pss_one ?d1)))) (pss_one (ps_ret pe_bl))), ?_⟩
  case s0 => exact ps_set (i := 2) scLis.nd rfl (Or.inl rfl) (pe_lst pa_nil)
  case qd => exact pg_tup rfl (pgs_cons (pg_name (i := 3) scLis.nd rfl (Or.inl rfl)) (pgs_cons (pg_name (i := 4) scLis.nd rfl (Or.inl rfl)) pgs_nil))
  case c0 => exact (pw_or (pt_cmp (pc_dnotin hu (pe_tup (pa_cons (pv 3) (pa_cons (pv 4) pa_nil))) (pv 0)) (by with_unfolding_all rfl)) (pw_or (pt_cmpR op_in_seq (pv 3) (pv 2) (by with_unfolding_all rfl)) (pw_or1 (pt_cmpR op_in_seq (pv 4) (pv 2) (by with_unfolding_all rfl))))).pt
  case d0 => exact ps_expr (pe_bm PySem.F.plainAttrs_list PySem.F.slot_list_append PySem.F.type_list_append mt_append (pv 2) (pa_cons (pv 3) pa_nil))
  case d1 => exact ps_expr (pe_bm PySem.F.plainAttrs_list PySem.F.slot_list_append PySem.F.type_list_append mt_append (pv 2) (pa_cons (pv 4) pa_nil))
  rw [show L2.start nmJ [V.ref d, .ref q] = [some (.ref d), some (.ref q), none, none, none] from rfl]
  have lr := Paired.length hT
  refine ⟨Nat.zero_le _, fun u nu => ?_⟩
  have s1 : Same H (upd H u (.lst [])) := Same.new nu
  have hu1 : upd H u (.lst []) u = some (.lst []) := upd_same
  dsimp only [gName, List.set_cons_succ, List.set_cons_zero]
  generalize upd H u (.lst []) = H1 at s1 hu1 ⊢
  refine ⟨_, rfl, q, rfl, ⟨_, SqL.of (s1 q _ hq)⟩, for_list (K := K) (a := q) (xs := qs.map V.ref)
   (fun i σ H3 => ∃ (e3 e4 : Option V), σ = [some (.ref d), some (.ref q), some (.ref u), e3, e4] /\ Same H H3 /\ H3 u = some (.lst (((ts.take i).flatten).map V.int)) /\ (ts.take i).flatten.length = 2 * i)
   ⟨none, none, rfl, s1, hu1, rfl⟩ (fun i σ H3 _ h3 => by obtain ⟨_, _, _, s3, _⟩ := h3; exact SqL.of (s3 q _ hq)) ?_ ?_⟩
  ·rintro i x σ H3 hi ⟨e3, e4, rfl, s3, hu3, lf⟩
   refine gz9 fun _ bk0 => ?_
   obtain ⟨r, t, rfl, et, hr0⟩ := tup_at hT hi
   refine bk0 ?_
   have hil : i < ts.length := (List.getElem?_eq_some_iff.mp et).1
   have htk := hk t (List.mem_of_getElem? et)
   obtain ⟨a, b, rfl⟩ : ∃ a b, t = [a, b] := by
    obtain ⟨v, _, rfl⟩ := List.mem_map.mp htk
    exact ⟨_, _, rfl⟩
   obtain ⟨ef, et1⟩ := flat_split et
   rw [ef, List.nodup_append] at nd
   obtain ⟨n1, n2, n3⟩ := nd
   have na : a ∉ (ts.take i).flatten := fun z => n3 a z a (.head _) rfl
   have nb : b ∉ (ts.take i).flatten := fun z => n3 b z b (.tail _ (.head _)) rfl
   refine ⟨r, _, rfl, SqT.of (s3 r _ hr0), rfl, _, _, rfl, _, _, rfl, rfl, ?_⟩
   dsimp only [gName, List.set_cons_succ, List.set_cons_zero]
   refine ⟨_, rfl, _, rfl, (by show 2 <= sizeLine; decide), fun p np => ?_⟩
   have s4 : Same H3 (upd H3 p (.tup [.int a, .int b])) := Same.new np
   have hp4 : upd H3 p (.tup [.int a, .int b]) p = some (.tup (([a, b].map Sum.inl).map kV)) := upd_same
   generalize upd H3 p (.tup [.int a, .int b]) = H4 at s4 hp4 ⊢
   have hu4 := s4 u _ hu3
   have hd4 := s4 d _ (s3 d _ hd)
   refine ⟨_, rfl, d, _, rfl, .inr ⟨wd T, [a, b].map Sum.inl, p, .inr ⟨o, hd4⟩, rfl, hp4, rfl⟩, _, rfl, ?_⟩
   rw [wd_has.mpr htk]
   refine iteF ?_
   refine ⟨_, rfl, _, rfl, u, _, rfl, .inl (SqL.of hu4), rfl, flat_ints _, _, rfl, ?_⟩
   rw [if_neg Bool.false_ne_true, inV_ints, decide_eq_false na]
   refine iteF ?_
   refine ⟨_, rfl, _, rfl, u, _, rfl, .inl (SqL.of hu4), rfl, flat_ints _, _, rfl, ?_⟩
   rw [if_neg Bool.false_ne_true, inV_ints, decide_eq_false nb]
   refine iteF ?_
   try dsimp only
   refine ⟨_, rfl, .inl ⟨rfl, _, SqL.of hu4⟩, _, rfl, u, _, _, rfl, rfl, hu4, small1000 (by rw [List.length_map]; (first | lia | omega)), ?_⟩
   refine ⟨_, rfl, .inl ⟨rfl, _, SqL.of upd_same⟩, _, rfl, u, _, _, rfl, rfl, upd_same, small1000 (by rw [List.length_append, List.length_map, List.length_singleton]; (first | lia | omega)), ?_⟩
   rw [upd_upd]
   refine ⟨_, _, rfl, fun c v e => by rw [upd_ne (ne_of_none e nu)]; exact s4 c v (s3 c v e), ?_, ?_⟩
   ·rw [upd_same, et1, List.map_append, List.append_assoc]
    rfl
   ·rw [et1, List.length_append, lf]
    show _ + 2 = 2 * (_ + 1)
    (first | lia | omega)
  ·rintro σ H3 ⟨e3, e4, rfl, s3, hu3, lf⟩
   exact hQ H3 s3
end
end K29
namespace K29
open PySem L2 PyProof.Rows
theorem atI_any {xs : List Int} {z : Int} {k : Nat} (h : z = k \/ (z < 0 /\ z + xs.length = k)) (hk : k < xs.length) : atI (xs.map V.int) z = some (.int (xs.getD k 0)) := by
 rcases h with h | ⟨h0, h⟩
 ·exact atI_get' h hk
 ·have h1 : ixN (xs.map V.int).length z = some k := by
   rw [List.length_map]
   unfold ixN
   rw [if_neg (by (first | lia | omega)), if_pos (by (first | lia | omega))]
   congr 1
   (first | lia | omega)
  unfold atI
  rw [h1]
  show (xs.map V.int)[k]? = _
  rw [List.getElem?_map]
  simp [hk]
section
variable {P : Program} {w : World} {K : W.Frag} {mg : Str -> Option Value} {base : Heap} {C : Addr}
noncomputable abbrev nmL : List Str := ["_law_script", "_law_head", "_law_many", "_law_groups", "_law_ties", "_law_group", "_law_k", "_law_web", "_law_small", "_law_sources", "_law_told", "_law_outs", "_law_chosen_here", "_law_laid", "_law_due", "_law_at", "_law_out", "_law_pairs"]
theorem scLaw : FnScope nmL ["_law_script"] (defScope sLaw) := ⟨rfl, rfl, rfl, by decide +kernel, rfl, by decide +kernel, by decide +kernel⟩
noncomputable abbrev XL (P : Program) (w : World) (K : W.Frag) (mg : Str -> Option Value) (base : Heap) (f : Addr) (cdv : Value) (A : Around) (outer : List Env) (s : Shared) (H : Hp) (E : L2.XK) : Cx := (cxOf CX0 P w K mg base nmL "law" (defScope sLaw) f cdv A outer s H E).nox
noncomputable abbrev lawAt (i : Nat) : Stmt := (defBody sLaw).getD i (.Pass ⟨0, 0, 0, 0⟩)
section
variable {f : Addr} {cdv : Value} {A : Around} {outer : List Env} {s : Shared} {H : Hp} {E : L2.XK}
noncomputable def tMany : TS := fun D σ H => ∃ (h m : Int) (e0 e3 e4 e5 e6 e7 e8 e9 e10 e11 e12 e13 e14 e15 e16 e17 : Option V), σ = [e0, some (.int h), some (.int m), e3, e4, e5, e6, e7, e8, e9, e10, e11, e12, e13, e14, e15, e16, e17] /\ 1 <= m /\ m <= 24 /\ ∀ m' : Int, 1 <= m' -> m' <= 24 -> D.nx [e0, some (.int h), some (.int m'), e3, e4, e5, e6, e7, e8, e9, e10, e11, e12, e13, e14, e15, e16, e17] H
theorem ok_l2 : PS (XL P w K mg base f cdv A outer s H E) (lawAt 2) tMany := by
 refine' PS.imp (t' := tMany) (ps_if (pt_cmpR op_eq (pe_op op_mod (pe_op op_fdiv (pv 1) pe_int) pe_int) pe_int (nomark _)) (pss_one (ps_set (i := 2) scLaw.nd rfl (Or.inl rfl) (pe_op op_add pe_int (pe_op op_mod (pe_op op_fdiv (pv 1) pe_int) pe_int)))) pss_nil) ?_
 rintro D σ H1 ⟨h, m, e0, e3, e4, e5, e6, e7, e8, e9, e10, e11, e12, e13, e14, e15, e16, e17, rfl, m0, m1, k⟩
 refine ⟨_, rfl, _, _, rfl, rfl, ⟨by decide, by decide⟩, _, _, rfl, rfl, (by show (0 : Int) < 7; decide), rfl, _, rfl, ?_⟩
 refine ite2 (fun _ => ?_) (fun _ => k m m0 m1)
 exact ⟨_, rfl, _, _, rfl, rfl, ⟨by decide, by decide⟩, _, _, rfl, rfl, (by show (0 : Int) < 12; decide), _, _, rfl, rfl, k _ (by (first | lia | omega)) (by (first | lia | omega))⟩
noncomputable def nbr (G : List Int) (i : Nat) : List Int := [Mt.lo (G.getD ((i + G.length - 1) % G.length) 0) (G.getD i 0), Mt.hi (G.getD ((i + G.length - 1) % G.length) 0) (G.getD i 0)]
noncomputable def tRing : TS := fun D σ H => ∃ (h m : Int) (g d : Addr) (gs : List Addr) (Gs : List (List Int)) (e0 e2 e5 e6 e7 e8 e9 e10 e11 e12 e13 e14 e15 e16 e17 : Option V), σ = [e0, some (.int h), e2, some (.ref g), some (.ref d), e5, e6, e7, e8, e9, e10, e11, e12, e13, e14, e15, e16, e17] /\ H g = some (.lst (gs.map V.ref)) /\ LsH H gs Gs /\ H d = some (.dT (wd [])) /\ Gs.flatten.Nodup /\ Gs.flatten.length <= 24 /\ (∀ G ∈ Gs, ∀ x ∈ G, 0 <= x /\ x < m) /\ Gs.length <= 24 /\ m <= 24 ∧
 ∀ (T : List Mt.Tri) (e5 e6 : Option V) (H' : Hp), (∀ b o, H b = some o -> b ≠ d -> H' b = some o) -> H' d = some (.dT (wd T)) -> Mt.Dt m T -> T.length <= 24 -> (∀ G ∈ Gs, 2 < G.length -> ∀ i, i < G.length -> nbr G i ∈ T.map Mt.key) -> D.nx [e0, some (.int h), e2, some (.ref g), some (.ref d), e5, e6, e7, e8, e9, e10, e11, e12, e13, e14, e15, e16, e17] H'
theorem ok_l5 {fT fW : Addr} {fdT fdW : FuncData} (grange : mg "range" = none) (glen : mg "len" = none)
  (GT : FnOk P w K mg base CX0 1 fT fdT ["_law_a", "_law_b"] spTie) (mT : mg "_law_tie" = some (.ref fT)) (kT : PySem.W.keepIn K (.ref fT) = true) (bT : Binds K fdT ["_law_a", "_law_b"] [])
  (GW : FnOk P w K mg base CX0 1 fW fdW ["_law_cell"] spLw) (mW : mg "_law_weight" = some (.ref fW)) (kW : PySem.W.keepIn K (.ref fW) = true) (bW : Binds K fdW ["_law_cell"] []) (hr1 : Room 1 (XL P w K mg base f cdv A outer s H E).A) (hu : (XL P w K mg base f cdv A outer s H E).A.units + 1 < cLine) : PS (XL P w K mg base f cdv A outer s H E) (lawAt 5) tRing := by
 refine' PS.imp (t' := tRing) (ps_for PassesOwn.never rfl (pi_list (pv 3)) (pg_name (i := 5) scLaw.nd rfl (Or.inl rfl)) (pss_one (ps_for PassesOwn.never rfl (pi_range1 rfl grange (pa_cons (pe_callB call_len_seq (by rfl) glen PySem.boot_len (pa_cons (pv 5) pa_nil)) pa_nil)) (pg_name (i := 6) scLaw.nd rfl (Or.inl rfl)) (pss_one (ps_if (pt_cmpR op_gt (pe_callB call_len_seq (by rfl) glen PySem.boot_len (pa_cons (pv 5) pa_nil)) pe_int (nomark _)) (pss_one ?b0) pss_nil))))) ?_
 case b0 => exact ps_dput hu (pv 4) (pe_call GT hr1 (by rfl) mT kT bT .nil pass0 (pa_cons (pe_ix ix_list (pv 5) (pe_op op_sub (pv 6) pe_int) (fun _ _ => rfl)) (pa_cons (pe_ix ix_list (pv 5) (pv 6) (fun _ _ => rfl)) pa_nil))) (pe_call GW hr1 (by rfl) mW kW bW .nil pass0 (pa_cons (pe_op op_add (pe_op op_fdiv (pv 1) pe_int) (pe_op op_mul pe_int (pv 6))) pa_nil)) rfl
 rintro D σ H1 ⟨h, m, g, d, gs, Gs, e0, e2, e5, e6, e7, e8, e9, e10, e11, e12, e13, e14, e15, e16, e17, rfl, hg, hL, hd, ndF, lF, rg, lG, m24, k⟩
 have lgs := Paired.length hL
 have ngd : g ≠ d := ne_of hg hd (by intro z; cases z)
 have lenF : ∀ i, ((Gs.take i).flatten).length <= 24 := fun i => by
  have : (Gs.take i).flatten.length <= Gs.flatten.length := by
   conv => rhs; rw [<- List.take_append_drop i Gs, List.flatten_append, List.length_append]
   (first | lia | omega)
  (first | lia | omega)
 refine ⟨_, rfl, g, rfl, ⟨_, SqL.of hg⟩, for_list (K := K) (a := g) (xs := gs.map V.ref)
  (fun i σ H5 => ∃ (T : List Mt.Tri) (e5 e6 : Option V), σ = [e0, some (.int h), e2, some (.ref g), some (.ref d), e5, e6, e7, e8, e9, e10, e11, e12, e13, e14, e15, e16, e17] /\ (∀ b o, H1 b = some o -> b ≠ d -> H5 b = some o) /\ H5 d = some (.dT (wd T)) /\ Mt.Dt m T /\ T.length <= ((Gs.take i).flatten).length /\ ∀ G ∈ Gs.take i, 2 < G.length -> ∀ j, j < G.length -> nbr G j ∈ T.map Mt.key)
  ⟨[], e5, e6, rfl, fun b o e _ => e, hd, ⟨List.nodup_nil, fun t ht => (nomatch ht)⟩, Nat.le_refl _, fun G hG => (nomatch hG)⟩ (fun i σ H5 _ h5 => by obtain ⟨_, _, _, _, fr, _⟩ := h5; exact SqL.of (fr g _ hg ngd)) ?_ ?_⟩
 ·rintro i x σ H5 hi ⟨T, e5, e6, rfl, fr, hd5, hT, lT, done⟩
  rw [List.getElem?_map] at hi
  refine gz9 fun _ bk0 => ?_
  obtain ⟨r, er, rfl⟩ := Option.map_eq_some_iff.mp hi
  obtain ⟨G, eG, hr0⟩ := Sx.pair_at (i := i) (a := r) hL er
  refine bk0 ?_
  have nrd : r ≠ d := ne_of hr0 hd (by intro z; cases z)
  have hG := List.mem_of_getElem? eG
  have etk : (Gs.take (i + 1)).flatten = (Gs.take i).flatten ++ G := by rw [List.take_succ, eG, List.flatten_append]; simp
  have lf := lenF (i + 1)
  rw [etk, List.length_append] at lf
  have ndG : G.Nodup := by
   obtain ⟨s, t, e⟩ := List.append_of_mem hG
   rw [e, List.flatten_append, List.flatten_cons, List.nodup_append] at ndF
   exact (List.nodup_append.mp ndF.2.1).1
  dsimp only [gName, List.set_cons_succ, List.set_cons_zero]
  refine ⟨_, rfl, r, _, rfl, .inl (SqL.of (fr r _ hr0 nrd)), _, rfl, by rw [List.length_map]; (first | lia | omega), by rw [List.length_map]; (first | lia | omega), ?_⟩
  rw [List.length_map, Int.toNat_natCast]
  refine for_range (lo := 0) (n := G.length) (fun j σ H6 => ∃ (T' : List Mt.Tri) (e6 : Option V), σ = [e0, some (.int h), e2, some (.ref g), some (.ref d), some (.ref r), e6, e7, e8, e9, e10, e11, e12, e13, e14, e15, e16, e17] /\ (∀ b o, H1 b = some o -> b ≠ d -> H6 b = some o) /\ H6 d = some (.dT (wd T')) /\ Mt.Dt m T' /\ T'.length <= ((Gs.take i).flatten).length + j /\ (∀ k ∈ T.map Mt.key, k ∈ T'.map Mt.key) /\ (2 < G.length -> ∀ z, z < j -> nbr G z ∈ T'.map Mt.key))
   ⟨T, e6, rfl, fr, hd5, hT, lT, fun k hk => hk, fun _ z hz => absurd hz (Nat.not_lt_zero _)⟩ ?_ ?_
  ·rintro j σ H6 hj ⟨T', e6, rfl, fr6, hd6, hT6, lT6, sub, dn⟩
   dsimp only [gName, List.set_cons_succ, List.set_cons_zero]
   rw [Int.zero_add]
   have hr6 := fr6 r _ hr0 nrd
   refine ⟨_, rfl, r, _, rfl, .inl (SqL.of hr6), _, _, rfl, rfl, _, rfl, ?_⟩
   rw [List.length_map]
   refine ite2 (fun c => ?_) (fun c => ⟨T', _, rfl, fr6, hd6, hT6, by (first | lia | omega), sub, fun c3 => absurd (decide_eq_true (show (2 : Int) < G.length by (first | lia | omega))) c⟩)
   have c : (2 : Int) < G.length := of_decide_eq_true c
   refine ⟨_, rfl, _, _, rfl, rfl, ⟨by decide, by decide⟩, _, rfl, _, _, rfl, rfl, .inl ⟨by decide, by decide⟩, _, _, rfl, rfl, _, rfl, fun n => ?_⟩
   have hp : (j + G.length - 1) % G.length < G.length := Nat.mod_lt _ (by (first | lia | omega))
   have ata : atI (G.map V.int) ((j : Int) - 1) = some (.int (G.getD ((j + G.length - 1) % G.length) 0)) := by
    refine atI_any ?_ hp
    rcases Nat.eq_zero_or_pos j with z | z
    ·subst z
     rw [Nat.zero_add, Nat.mod_eq_of_lt (by (first | lia | omega))]
     exact .inr ⟨by (first | lia | omega), by (first | lia | omega)⟩
    ·refine .inl ?_
     rw [show j + G.length - 1 = (j - 1) + G.length by (first | lia | omega), Nat.add_mod_right, Nat.mod_eq_of_lt (by (first | lia | omega))]
     (first | lia | omega)
   have atb : atI (G.map V.int) (j : Int) = some (.int (G.getD j 0)) := atI_any (.inl rfl) hj
   refine ⟨_, rfl, _, rfl, _, rfl, _, _, rfl, rfl, r, _, _, _, rfl, rfl, SqL.of hr6, ata, _, rfl, _, rfl, r, _, _, _, rfl, rfl, SqL.of hr6, atb, _, _, rfl, fun y hy => ?_⟩
   have npj : (j + G.length - 1) % G.length ≠ j := by
    rcases Nat.eq_zero_or_pos j with z | z
    ·subst z
     rw [Nat.zero_add, Nat.mod_eq_of_lt (by (first | lia | omega))]
     (first | lia | omega)
    ·rw [show j + G.length - 1 = (j - 1) + G.length by (first | lia | omega), Nat.add_mod_right, Nat.mod_eq_of_lt (by (first | lia | omega))]
     (first | lia | omega)
   have ga : ∀ p, p < G.length -> G[p]? = some (G.getD p 0) := fun p hp => by rw [List.getD_eq_getElem?_getD, List.getElem?_eq_getElem hp]; rfl
   have ea := ga _ hp
   have eb := ga _ hj
   have en : nbr G j = [Mt.lo (G.getD ((j + G.length - 1) % G.length) 0) (G.getD j 0), Mt.hi (G.getD ((j + G.length - 1) % G.length) 0) (G.getD j 0)] := rfl
   generalize G.getD ((j + G.length - 1) % G.length) 0 = a1 at ea en hy ⊢
   generalize G.getD j 0 = b1 at eb en hy ⊢
   have nab : a1 ≠ b1 := fun z => npj (ix_inj ndG ea (z ▸ eb))
   have ra := rg G hG a1 (List.mem_of_getElem? ea)
   have rb := rg G hG b1 (List.mem_of_getElem? eb)
   have r := Mt.key_range (m := m) (t := (a1, b1, 0)) (by unfold Mt.bad; show ¬ (a1 < 0 \/ m <= a1 \/ b1 < 0 \/ m <= b1 \/ a1 = b1); (first | lia | omega))
   have s7 : Same H6 (upd H6 y (.tup [.int (Mt.lo a1 b1), .int (Mt.hi a1 b1)])) := Same.new hy
   have hy7 : upd H6 y (.tup [.int (Mt.lo a1 b1), .int (Mt.hi a1 b1)]) y = some (.tup [.int (Mt.lo a1 b1), .int (Mt.hi a1 b1)]) := upd_same
   generalize upd H6 y (.tup [.int (Mt.lo a1 b1), .int (Mt.hi a1 b1)]) = H7 at s7 hy7 ⊢
   refine ⟨d, _, rfl, DPut.t (k := [Mt.lo a1 b1, Mt.hi a1 b1].map Sum.inl) (s7 d _ hd6) hy7 (small1000 (by unfold wd; rw [List.length_map]; (first | lia | omega))), ?_⟩
   refine gz9 fun _ bk0 => ?_
   obtain ⟨T2, ep, hT2, hk2, l2⟩ := Dt.put hT6 (w := n) r.1 r.2.1 r.2.2
   refine bk0 ?_
   rw [show putK (wd T') ([Mt.lo a1 b1, Mt.hi a1 b1].map Sum.inl) (.int n) = wd T2 from ep]
   refine ⟨T2, _, rfl, fun b o e nb => by rw [upd_ne nb]; exact s7 b o (fr6 b o e nb), upd_same, hT2, by (first | lia | omega), fun k hk => (hk2 k).mpr (.inl (sub k hk)), fun c3 z hz => ?_⟩
   rcases Nat.lt_or_ge z j with q | q
   ·exact (hk2 _).mpr (.inl (dn c3 z q))
   ·have : z = j := by (first | lia | omega)
    rw [this, en]
    exact (hk2 _).mpr (.inr rfl)
  ·rintro σ H6 ⟨T', e6, rfl, fr6, hd6, hT6, lT6, sub, dn⟩
   refine ⟨T', _, _, rfl, fr6, hd6, hT6, by rw [etk, List.length_append]; exact lT6, fun G' hG' c z hz => ?_⟩
   rw [List.take_succ, eG] at hG'
   rcases List.mem_append.mp hG' with h | h
   ·exact sub _ (done G' h c z hz)
   ·rw [List.mem_singleton.mp h] at c hz ⊢
    exact dn c z hz
 ·rintro σ H5 ⟨T, e5, e6, rfl, fr, hd5, hT, lT, done⟩
  rw [List.length_map, lgs, List.take_length] at lT done
  exact k T e5 e6 H5 fr hd5 hT (by (first | lia | omega)) done
end
end
end K29
namespace L2
open PySem PySem.Spec PyProof.Rows
theorem call_list_ofK {X : Cx} (K : W.Frag) (h : X.K = K) : CallR X (.type "list") (fun xs H Q => ∃ (p : Addr) (ys : List V), xs = [V.ref p] /\ (SqL K H p ys \/ SqT K H p ys) /\ ∀ l : Addr, H l = none -> Q (.ref l) (upd H l (.lst ys))) := by subst h; exact call_list_of
theorem call_len_seqK {X : Cx} (K : W.Frag) (h : X.K = K) : CallR X (.builtin "len") (fun xs H Q => ∃ (p : Addr) (ys : List V), xs = [V.ref p] /\ (SqL K H p ys \/ SqT K H p ys) /\ Q (.int ys.length) H) := by subst h; exact call_len_seq
end L2
namespace K29
open PySem L2 PyProof.Rows
section
variable {P : Program} {w : World} {K : W.Frag} {mg : Str -> Option Value} {base : Heap} {C : Addr}
section
variable {f : Addr} {cdv : Value} {A : Around} {outer : List Env} {s : Shared} {H : Hp} {E : L2.XK}
theorem nd_ownG : ([".0", "_law_group"] : List Str).Nodup := by decide +kernel
noncomputable def tSmall (C : Addr) : TS := fun D σ H => ∃ (g x : Addr) (m : Int) (U V0 : List Mt.Tri) (ks : List (List Int)) (gs : List Addr) (Gs : List (List Int)) (e0 e1 e2 e4 e5 e6 e8 e9 e10 e11 e12 e13 e14 e15 e16 e17 : Option V), σ = [e0, e1, e2, some (.ref g), e4, e5, e6, some (.ref x), e8, e9, e10, e11, e12, e13, e14, e15, e16, e17] /\ Grp H g gs Gs /\ WebAt C H x m U ks /\ tis U ks = V0.map Mt.tri /\ V0.length <= 280 /\ (∀ t ∈ V0, t.1 ∈ Gs.flatten /\ t.2.1 ∈ Gs.flatten) ∧
 ∀ (x' ls : Addr) (kd ks' : List (List Int)) (ps : List Addr) (H' : Hp), Same H H' -> WebAt C H' x' Gs.length (kd.map (Dr.tieOf (Dr.numOf Gs) V0)) ks' -> H' ls = some (.lst (ps.map V.ref)) -> TupsH H' ps (kd.map fun k => (Dr.rowOf (Dr.numOf Gs) V0 k).drop 1) -> Dr.Sld (Dr.numOf Gs) V0 kd -> D.nx [e0, e1, e2, some (.ref g), e4, e5, e6, some (.ref x), some (.ref x'), some (.ref ls), e10, e11, e12, e13, e14, e15, e16, e17] H'
theorem ok_l8 {fD : Addr} {fdD : FuncData} (glist : mg "list" = none) (GD : FnOk P w K mg base CX0 5 fD fdD ["web", "groups"] (spDrw C)) (mD : mg "drawn" = some (.ref fD)) (kD : PySem.W.keepIn K (.ref fD) = true) (bD : Binds K fdD ["web", "groups"] []) (hr5 : Room 5 (XL P w K mg base f cdv A outer s H E).A) : PS (XL P w K mg base f cdv A outer s H E) (lawAt 8) (tSmall C) := by
 refine' PS.imp (t' := tSmall C) (ps_asg (pe_call GD hr5 (by rfl) mD kD bD .nil pass0 (pa_cons (pv 7) (pa_cons ?cc pa_nil))) (pg_tup (n := 2) rfl (pgs_cons (pg_name (i := 8) scLaw.nd rfl (Or.inl rfl)) (pgs_cons (pg_name (i := 9) scLaw.nd rfl (Or.inl rfl)) pgs_nil)))) ?_
 case cc => exact pe_comp (g := gName 1) (own := [".0", "_law_group"]) (cl := []) (caps := []) (js := []) rfl (caps0 rfl rfl (by decide +kernel) (by decide +kernel)) (pi_list (pv 3)) (fun pins C s H1 fp => pg_name (i := 1) nd_ownG rfl (Or.inl rfl)) (fun pins C s H1 fp => pts_nil) (fun pins C s H1 fp => pe_callTy (call_list_ofK K rfl) (by rfl) glist boot_list (pa_cons (pv 1) pa_nil))
 rintro D0 σ H2 ⟨g, x, m, U, V0, ks, gs, Gs, e0, e1, e2, e4, e5, e6, e8, e9, e10, e11, e12, e13, e14, e15, e16, e17, rfl, G, W, eU, lU, cov, kk0⟩
 have lg := Paired.length G.ls
 have lG := G.len
 refine ⟨_, rfl, _, rfl, g, rfl, ⟨_, SqL.of G.lst⟩, fun D hD => ?_⟩
 refine turns_list (K := K) (a := g) (xs := gs.map V.ref) (fun i ys σ H4 => ∃ (zs : List Addr) (e0 e1 : Option V), ys = zs.map V.ref /\ σ = [e0, e1] /\ Same H2 H4 /\ H4 D = some (.lst ys) /\ LsH H4 zs (Gs.take i) /\ ∀ z ∈ zs, z ≠ D) ⟨[], none, none, rfl, rfl, Same.new hD, upd_same, .nil, fun z hz => (nomatch hz)⟩ ?_ ?_ ?_
 ·rintro i ys σ H4 ⟨zs, e0, e1, rfl, rfl, s4, hD4, hz, _⟩
  refine ⟨hD4, small1000 ?_, SqL.of (s4 g _ G.lst)⟩
  have := Paired.length hz
  rw [List.length_take] at this
  rw [List.length_map]
  (first | lia | omega)
 ·rintro i x0 ys σ H4 hi ⟨zs, e0, e1, rfl, rfl, s4, hD4, hz, nD⟩
  have hil : i < gs.length := by have := (List.getElem?_eq_some_iff.mp hi).1; rw [List.length_map] at this; exact this
  rw [List.getElem?_map] at hi
  refine gz9 fun _ bk0 => ?_
  obtain ⟨r, er, rfl⟩ := Option.map_eq_some_iff.mp hi
  obtain ⟨G1, eG, hr0⟩ := Sx.pair_at (i := i) (a := r) G.ls er
  refine bk0 ?_
  unfold gName
  refine yes_of ?_
  refine ⟨_, rfl, r, _, rfl, .inl (SqL.of (s4 r _ hr0)), fun q nq => ?_⟩
  have s5 : Same H4 (upd H4 q (.lst (G1.map V.int))) := Same.new nq
  have hq5 : upd H4 q (.lst (G1.map V.int)) q = some (.lst (G1.map V.int)) := upd_same
  have nqD : q ≠ D := (ne_of_none hD4 nq).symm
  generalize upd H4 q (.lst (G1.map V.int)) = H5 at s5 hq5 ⊢
  refine ⟨s5 D _ hD4, Nxt.mk (by rw [List.length_map]; exact hil) ⟨zs ++ [q], _, _, by rw [List.map_append]; rfl, rfl, fun b o e => ?_, upd_same, ?_, fun z hz' => ?_⟩⟩
  ·rw [upd_ne (ne_of_none e hD)]
   exact s5 b o (s4 b o e)
  ·rw [List.take_succ, eG]
   refine paired_snoc (zip_paired (Paired.length hz) fun g hg => ?_) (by rw [upd_ne nqD]; exact hq5)
   rw [upd_ne (nD g.1 (List.of_mem_zip hg).1)]
   exact s5 _ _ (paired_zip hz g hg)
  ·rcases List.mem_append.mp hz' with h | h
   ·exact nD z h
   ·rw [List.mem_singleton.mp h]; exact nqD
 ·rintro ys σ H4 ⟨zs, e0, e1, rfl, rfl, s4, hD4, hz, _⟩
  rw [List.length_map, lg, List.take_length] at hz
  refine ⟨x, D, m, U, ks, V0, zs, Gs, rfl, W.same s4, eU, lU, ⟨hD4, hz, G.nd, G.len, G.all⟩, cov, fun q x' ls kd ks' ps H6 s6 hq W' nls hls hps S1 => ?_⟩
  refine ⟨q, _, rfl, SqT.of hq, rfl, _, _, rfl, _, _, rfl, rfl, ?_⟩
  exact kk0 x' ls kd ks' ps H6 (s4.trans s6) W' hls hps S1
noncomputable def compOu : Scope := { kind := .function, names := [(Str.ofString ".0", .local), (Str.ofString "_law_group", .local), (Str.ofString "len", .globalImplicit), (Str.ofString "_law_head", .free)], isGenerator := false, isCoroutine := false, more := [] }
theorem nd_compOu : ([".0", "_law_group", "_law_head"] : List Str).Nodup := by decide +kernel
theorem capsOu {f : Addr} {cdv : Value} {A : Around} {outer : List Env} {s : Shared} {H : Hp} {E : L2.XK} : Caps (XL P w K mg base f cdv A outer s H E) compOu [(Str.ofString "_law_head", s.heap.objs.size + 1)] [".0", "_law_group"] ["_law_head"] [1] := by
 have e1 : (XL P w K mg base f cdv A outer s H E).env.cells = [(Str.ofString "_law_ties", s.heap.objs.size + 1 + 1), (Str.ofString "_law_head", s.heap.objs.size + 1)] := by rfl
 have e2 : (relabel compOu (XL P w K mg base f cdv A outer s H E).env).names = [(Str.ofString ".0", .local), (Str.ofString "_law_group", .local), (Str.ofString "len", .globalImplicit), (Str.ofString "_law_head", .cell)] := by rfl
 refine ⟨rfl, fun x c h => ?_, rfl, by decide +kernel, by decide +kernel, fun x hx => ?_, rfl, fun i x e => ?_⟩
 ·have hx : (x = Str.ofString "_law_head" /\ c = s.heap.objs.size + 1) := by
   have := PySem.mem_of_lookup h
   simpa using this
  obtain ⟨rfl, rfl⟩ := hx
  rw [e1]; rfl
 ·rw [e2] at hx
  have hx : x = Str.ofString "_law_head" := by
   rcases hx with hx | hx
   all_goals
    have := PySem.mem_of_lookup hx
    simpa using this
  subst hx
  exact ⟨_, rfl⟩
 ·match i, e with
  | 0, e =>
   cases (Option.some.inj e)
   exact ⟨1, rfl, rfl, rfl, rfl, by rw [e2]; rfl⟩
  | n + 1, e => cases e
noncomputable def tOuts : TS := fun D σ H => ∃ (g : Addr) (h : Int) (gs : List Addr) (Gs : List (List Int)) (e0 e2 e4 e5 e6 e7 e8 e9 e10 e11 e12 e13 e14 e15 e16 e17 : Option V), σ = [e0, some (.int h), e2, some (.ref g), e4, e5, e6, e7, e8, e9, e10, e11, e12, e13, e14, e15, e16, e17] /\ Grp H g gs Gs /\ (∀ G ∈ Gs, G.length % 2 = 1) ∧
 ∀ (o : Addr) (os : List Int) (H' : Hp), Same H H' -> H o = none -> H' o = some (.lst (os.map V.int)) -> os.length = Gs.length -> (∀ (i : Nat) G z, Gs[i]? = some G -> os[i]? = some z -> z ∈ G) -> D.nx [e0, some (.int h), e2, some (.ref g), e4, e5, e6, e7, e8, e9, e10, some (.ref o), e12, e13, e14, e15, e16, e17] H'
theorem ok_l10 (glen : mg "len" = none) : PS (XL P w K mg base f cdv A outer s H E) (lawAt 10) tOuts := by
 refine' PS.imp (t' := tOuts) (ps_comp (i := 11) (g := gName 1) (own := [".0", "_law_group"]) (caps := ["_law_head"]) (js := [1]) rfl capsOu (pi_list (pv 3)) (fun pins C s H1 fp => pg_name (i := 1) nd_compOu rfl (Or.inl rfl) (Or.inr rfl)) (fun pins C s H1 fp => pts_nil) (fun pins C s H1 fp => pe_ix (ix_listK K rfl) (pv 1) (pe_op op_mod (pe_op op_fdiv (pv 2) pe_int) (pe_callB (call_len_seqK K rfl) (by rfl) glen PySem.boot_len (pa_cons (pv 1) pa_nil))) (fun _ _ => rfl)) scLaw.nd rfl rfl rfl) ?_
 rintro D0 σ H2 ⟨g, h, gs, Gs, e0, e2, e4, e5, e6, e7, e8, e9, e10, e11, e12, e13, e14, e15, e16, e17, rfl, G, od, kk0⟩
 have lg := Paired.length G.ls
 have lG := G.len
 refine ⟨_, rfl, g, rfl, ⟨_, SqL.of G.lst⟩, fun D hD => ?_⟩
 refine turns_list (K := K) (a := g) (xs := gs.map V.ref) (fun i ys σ H4 => ∃ (os : List Int) (e0 e1 : Option V), ys = os.map V.int /\ σ = [e0, e1, some (.int h)] /\ Same H2 H4 /\ H4 D = some (.lst ys) /\ os.length = i /\ i <= Gs.length /\ ∀ (j : Nat) G z, Gs[j]? = some G -> os[j]? = some z -> z ∈ G) ⟨[], none, none, rfl, rfl, Same.new hD, upd_same, rfl, Nat.zero_le _, fun j G z _ e => by simp at e⟩ ?_ ?_ ?_
 ·rintro i ys σ H4 ⟨os, e0, e1, rfl, rfl, s4, hD4, lo, li, _⟩
  refine ⟨hD4, small1000 ?_, SqL.of (s4 g _ G.lst)⟩
  rw [List.length_map]
  (first | lia | omega)
 ·rintro i x0 ys σ H4 hi ⟨os, e0, e1, rfl, rfl, s4, hD4, lo, li, hm⟩
  have hil : i < gs.length := by have := (List.getElem?_eq_some_iff.mp hi).1; rw [List.length_map] at this; exact this
  rw [List.getElem?_map] at hi
  refine gz9 fun _ bk0 => ?_
  obtain ⟨r, er, rfl⟩ := Option.map_eq_some_iff.mp hi
  obtain ⟨G1, eG, hr0⟩ := Sx.pair_at (i := i) (a := r) G.ls er
  refine bk0 ?_
  have hr4 := s4 r _ hr0
  have oG := od G1 (List.mem_of_getElem? eG)
  unfold gName
  refine yes_of ?_
  have z0 := Int.emod_nonneg (h / 84) (show (G1.length : Int) ≠ 0 by (first | lia | omega))
  have z1 := Int.emod_lt_of_pos (h / 84) (show (0 : Int) < G1.length by (first | lia | omega))
  have hp : (h / 84 % (G1.length : Int)).toNat < G1.length := by (first | lia | omega)
  have atz : atI (G1.map V.int) (h / 84 % (G1.length : Int)) = some (.int (G1.getD (h / 84 % (G1.length : Int)).toNat 0)) := atI_any (.inl (by (first | lia | omega))) hp
  have zin : G1.getD (h / 84 % (G1.length : Int)).toNat 0 ∈ G1 := by rw [List.getD_eq_getElem?_getD, List.getElem?_eq_getElem hp]; exact List.getElem_mem hp
  refine ⟨_, rfl, _, rfl, _, _, rfl, rfl, ⟨by decide, by decide⟩, _, rfl, r, _, rfl, .inl (SqL.of hr4), _, _, rfl, rfl, (by rw [List.length_map]; (first | lia | omega)), r, _, _, _, rfl, rfl, SqL.of hr4, (by rw [List.length_map]; exact atz), hD4, Nxt.mk (by rw [List.length_map]; exact hil) ⟨os ++ [_], _, _, by rw [List.map_append]; rfl, rfl, fun b o e => ?_, upd_same, by rw [List.length_append, lo]; rfl, by (first | lia | omega), fun j G' z eG' ez => ?_⟩⟩
  ·rw [upd_ne (ne_of_none e hD)]
   exact s4 b o e
  ·rcases Nat.lt_or_ge j os.length with q | q
   ·rw [List.getElem?_append_left q] at ez
    exact hm j G' z eG' ez
   ·have hj := (List.getElem?_eq_some_iff.mp ez).1
    rw [List.length_append, List.length_singleton] at hj
    have e : j = i := by (first | lia | omega)
    subst e
    rw [eG] at eG'
    cases eG'
    rw [List.getElem?_append_right q, lo, Nat.sub_self] at ez
    cases (Option.some.inj ez)
    exact zin
 ·rintro ys σ H4 ⟨os, e0, e1, rfl, rfl, s4, hD4, lo, li, hm⟩
  rw [List.length_map, lg] at lo
  exact kk0 D os H4 s4 hD hD4 lo hm
end
end
end K29
namespace K29
open PySem L2 PyProof.Rows
noncomputable def tAt (U : List Mt.Tri) (i : Nat) : Mt.Tri := U.getD i (0, 0, 0)
noncomputable def lay1 (U : List Mt.Tri) (R : List (Int × Int)) (os : List Int) (i : Nat) : List Int := (os.set (tAt U i).1.toNat (R.getD i (0, 0)).1).set (tAt U i).2.1.toNat (R.getD i (0, 0)).2
theorem lay_len (U : List Mt.Tri) (R : List (Int × Int)) (is : List Nat) : ∀ os : List Int, (is.foldl (lay1 U R) os).length = os.length := by
 induction is with
 | nil => intro os; rfl
 | cons i is ih => intro os; rw [List.foldl_cons, ih]; unfold lay1; rw [List.length_set, List.length_set]
section
variable {P : Program} {w : World} {K : W.Frag} {mg : Str -> Option Value} {base : Heap} {C : Addr}
section
variable {f : Addr} {cdv : Value} {A : Around} {outer : List Env} {s : Shared} {H : Hp} {E : L2.XK}
noncomputable def tLay : TS := fun D σ H => ∃ (ls tl o ch la : Addr) (du : Int) (qs ps : List Addr) (U : List Mt.Tri) (R : List (Int × Int)) (os : List Int) (is : List Nat) (e0 e1 e2 e3 e4 e5 e6 e7 e8 e15 e16 e17 : Option V), σ = [e0, e1, e2, e3, e4, e5, e6, e7, e8, some (.ref ls), some (.ref tl), some (.ref o), some (.ref ch), some (.ref la), some (.int du), e15, e16, e17] /\ H tl = some (.lst (qs.map V.ref)) /\ TupsH H qs (U.map Mt.tri) /\ H ls = some (.lst (ps.map V.ref)) /\ TupsH H ps (R.map fun r => [r.1, r.2]) /\ R.length = U.length /\ H o = some (.lst (os.map V.int)) /\ H ch = some (.lst ((is.map fun (i : Nat) => (i : Int)).map V.int)) /\ H la = some (.lst []) ∧
 (∀ i ∈ is, i < U.length /\ 0 <= (tAt U i).1 /\ (tAt U i).1 < os.length /\ 0 <= (tAt U i).2.1 /\ (tAt U i).2.1 < os.length) /\ is.length <= 300 /\ (tl ≠ o /\ tl ≠ la /\ ls ≠ o /\ ls ≠ la /\ ch ≠ o /\ ch ≠ la /\ o ≠ la) ∧
 ∀ (du' : Int) (las : List Addr) (e15 : Option V) (H' : Hp), (∀ b u, H b = some u -> b ≠ o -> b ≠ la -> H' b = some u) -> H' o = some (.lst ((is.foldl (lay1 U R) os).map V.int)) -> H' la = some (.lst (las.map V.ref)) -> TupsH H' las (is.map fun i => [Mt.lo (R.getD i (0, 0)).1 (R.getD i (0, 0)).2, Mt.hi (R.getD i (0, 0)).1 (R.getD i (0, 0)).2]) -> du' = du + (is.map fun i => (tAt U i).2.2).sum -> D.nx [e0, e1, e2, e3, e4, e5, e6, e7, e8, some (.ref ls), some (.ref tl), some (.ref o), some (.ref ch), some (.ref la), some (.int du'), e15, e16, e17] H'
theorem ok_l14 {fT : Addr} {fdT : FuncData} (GT : FnOk P w K mg base CX0 1 fT fdT ["_law_a", "_law_b"] spTie) (mT : mg "_law_tie" = some (.ref fT)) (kT : PySem.W.keepIn K (.ref fT) = true) (bT : Binds K fdT ["_law_a", "_law_b"] []) (hr1 : Room 1 (XL P w K mg base f cdv A outer s H E).A) : PS (XL P w K mg base f cdv A outer s H E) (lawAt 14) tLay := by
 refine' PS.imp (t' := tLay) (ps_for PassesOwn.never rfl (pi_list (pv 12)) (pg_name (i := 15) scLaw.nd rfl (Or.inl rfl)) (pss_cons ?b0 (pss_cons ?b1 (pss_cons ?b2 (pss_one ?b3))))) ?_
 case b0 => exact ps_asg (pe_ix ix_tup (pe_ix ix_list (pv 9) (pv 15) (fun _ _ => rfl)) pe_int (fun _ _ => rfl)) (pg_sub (pv 11) (pe_ix ix_tup (pe_ix ix_list (pv 10) (pv 15) (fun _ _ => rfl)) pe_int (fun _ _ => rfl)) set_list)
 case b1 => exact ps_asg (pe_ix ix_tup (pe_ix ix_list (pv 9) (pv 15) (fun _ _ => rfl)) pe_int (fun _ _ => rfl)) (pg_sub (pv 11) (pe_ix ix_tup (pe_ix ix_list (pv 10) (pv 15) (fun _ _ => rfl)) pe_int (fun _ _ => rfl)) set_list)
 case b2 => exact ps_expr (pe_bm PySem.F.plainAttrs_list PySem.F.slot_list_append PySem.F.type_list_append mt_append (pv 13) (pa_cons (pe_call GT hr1 (by rfl) mT kT bT .nil pass0 (pa_cons (pe_ix ix_tup (pe_ix ix_list (pv 9) (pv 15) (fun _ _ => rfl)) pe_int (fun _ _ => rfl)) (pa_cons (pe_ix ix_tup (pe_ix ix_list (pv 9) (pv 15) (fun _ _ => rfl)) pe_int (fun _ _ => rfl)) pa_nil))) pa_nil))
 case b3 => exact ps_set (i := 14) scLaw.nd rfl (Or.inl rfl) (pe_op op_add (pv 14) (pe_ix ix_tup (pe_ix ix_list (pv 10) (pv 15) (fun _ _ => rfl)) pe_int (fun _ _ => rfl)))
 rintro D σ H1 ⟨ls, tl, o, ch, la, du, qs, ps, U, R, os, is, e0, e1, e2, e3, e4, e5, e6, e7, e8, e15, e16, e17, rfl, htl, hU, hls, hR, lRU, ho, hch, hla, rg, lis, ⟨n1, n2, n3, n4, n5, n6, n7⟩, k⟩
 refine ⟨_, rfl, ch, rfl, ⟨_, SqL.of hch⟩, for_list (K := K) (a := ch) (xs := (is.map fun (i : Nat) => (i : Int)).map V.int)
  (fun j σ H5 => ∃ (du' : Int) (las : List Addr) (e15 : Option V), σ = [e0, e1, e2, e3, e4, e5, e6, e7, e8, some (.ref ls), some (.ref tl), some (.ref o), some (.ref ch), some (.ref la), some (.int du'), e15, e16, e17] /\ (∀ b u, H1 b = some u -> b ≠ o -> b ≠ la -> H5 b = some u) /\ H5 o = some (.lst (((is.take j).foldl (lay1 U R) os).map V.int)) /\ H5 la = some (.lst (las.map V.ref)) /\ TupsH H5 las ((is.take j).map fun i => [Mt.lo (R.getD i (0, 0)).1 (R.getD i (0, 0)).2, Mt.hi (R.getD i (0, 0)).1 (R.getD i (0, 0)).2]) /\ du' = du + ((is.take j).map fun i => (tAt U i).2.2).sum /\ j <= is.length)
  ⟨du, [], e15, rfl, fun b u e _ _ => e, ho, hla, .nil, by simp, Nat.zero_le _⟩ (fun j σ H5 _ h5 => by obtain ⟨_, _, _, _, fr, _⟩ := h5; exact SqL.of (fr ch _ hch n5 n6)) ?_ ?_⟩
 ·rintro j x σ H5 hj ⟨du', las, e15, rfl, fr, ho5, hla5, hT5, ed, lj⟩
  obtain ⟨y, rfl, ey⟩ := map_int_at hj
  rw [List.getElem?_map] at ey
  refine gz9 fun _ bk0 => ?_
  obtain ⟨i, ei, rfl⟩ := Option.map_eq_some_iff.mp ey
  have hjl : j < is.length := (List.getElem?_eq_some_iff.mp ei).1
  obtain ⟨iU, r1, r2, r3, r4⟩ := rg i (List.mem_of_getElem? ei)
  refine bk0 ?_
  have lq := Paired.length hU
  have lp := Paired.length hR
  rw [List.length_map] at lq lp
  have hiq : i < qs.length := by (first | lia | omega)
  have hip : i < ps.length := by (first | lia | omega)
  have hiR : i < R.length := by (first | lia | omega)
  have eq : qs[i]? = some qs[i] := by simp [hiq]
  have ep : ps[i]? = some ps[i] := by simp [hip]
  generalize qs[i] = rt at eq
  generalize ps[i] = rs at ep
  refine gz9 fun _ bk0 => ?_
  obtain ⟨t, et, ht, _⟩ := Sx.pair_at (i := i) (a := rt) hU eq
  obtain ⟨u, eu, hu0, _⟩ := Sx.pair_at (i := i) (a := rs) hR ep
  refine bk0 ?_
  rw [List.getElem?_map, List.getElem?_eq_getElem iU] at et
  rw [List.getElem?_map, List.getElem?_eq_getElem hiR] at eu
  have tA : tAt U i = U[i] := by unfold tAt; rw [List.getD_eq_getElem?_getD, List.getElem?_eq_getElem iU]; rfl
  have rA : R.getD i (0, 0) = R[i] := by rw [List.getD_eq_getElem?_getD, List.getElem?_eq_getElem hiR]; rfl
  rw [<- (Option.some.inj et), <- tA] at ht
  rw [<- (Option.some.inj eu), <- rA] at hu0
  have elay : ∀ xs, lay1 U R xs i = (xs.set (tAt U i).1.toNat (R.getD i (0, 0)).1).set (tAt U i).2.1.toNat (R.getD i (0, 0)).2 := fun _ => rfl
  generalize hv : tAt U i = v at ht r1 r2 r3 r4 elay
  generalize hz : R.getD i (0, 0) = z at hu0 elay
  have att : atI (qs.map V.ref) (i : Int) = some (V.ref rt) := atI_nat (by rw [List.getElem?_map, eq]; rfl)
  have ats : atI (ps.map V.ref) (i : Int) = some (V.ref rs) := atI_nat (by rw [List.getElem?_map, ep]; rfl)
  have lo := lay_len U R (is.take j) os
  have nrt : rt ≠ o /\ rt ≠ la := ⟨ne_of ht ho (by intro y; cases y), ne_of ht hla (by intro y; cases y)⟩
  have nrs : rs ≠ o /\ rs ≠ la := ⟨ne_of hu0 ho (by intro y; cases y), ne_of hu0 hla (by intro y; cases y)⟩
  have four : ∀ H' : Hp, (∀ b u, H1 b = some u -> b ≠ o -> b ≠ la -> H' b = some u) -> H' tl = some (.lst (qs.map V.ref)) /\ H' ls = some (.lst (ps.map V.ref)) /\ H' rt = some (.tup ((Mt.tri v).map V.int)) /\ H' rs = some (.tup ([z.1, z.2].map V.int)) := fun H' h => ⟨h _ _ htl n1 n2, h _ _ hls n3 n4, h _ _ ht nrt.1 nrt.2, h _ _ hu0 nrs.1 nrs.2⟩
  have ix : ∀ (xs : List Int) (q : Int), 0 <= q -> q < xs.length -> ixN (xs.map V.int).length q = some q.toNat := fun xs q q0 q1 => by
   rw [List.length_map]
   unfold ixN
   rw [if_pos q0, if_pos q1]
  have f5 := four H5 fr
  generalize hO : (is.take j).foldl (lay1 U R) os = O at ho5 lo
  dsimp only [gName, List.set_cons_succ, List.set_cons_zero]
  refine ⟨_, rfl, _, rfl, ls, _, _, _, rfl, rfl, SqL.of f5.2.1, ats, rs, _, _, _, rfl, rfl, SqT.of f5.2.2.2, (show _ = some (V.int z.1) from rfl), _, rfl, _, rfl, _, rfl, tl, _, _, _, rfl, rfl, SqL.of f5.1, att, rt, _, _, _, rfl, rfl, SqT.of f5.2.2.1, (show _ = some (V.int v.1) from rfl), o, _, _, _, rfl, rfl, ho5, ix O v.1 r1 (by (first | lia | omega)), ?_⟩
  rw [<- List.map_set]
  have fr6 : ∀ b u, H1 b = some u -> b ≠ o -> b ≠ la -> upd H5 o (.lst ((O.set v.1.toNat z.1).map V.int)) b = some u := fun b u e e1 e2 => by rw [upd_ne e1]; exact fr b u e e1 e2
  have f6 := four _ fr6
  refine ⟨_, rfl, _, rfl, ls, _, _, _, rfl, rfl, SqL.of f6.2.1, ats, rs, _, _, _, rfl, rfl, SqT.of f6.2.2.2, (show _ = some (V.int z.2) from rfl), _, rfl, _, rfl, _, rfl, tl, _, _, _, rfl, rfl, SqL.of f6.1, att, rt, _, _, _, rfl, rfl, SqT.of f6.2.2.1, (show _ = some (V.int v.2.1) from rfl), o, _, _, _, rfl, rfl, upd_same, ix (O.set v.1.toNat z.1) v.2.1 r3 (by rw [List.length_set]; (first | lia | omega)), ?_⟩
  rw [<- List.map_set, upd_upd]
  have fr7 : ∀ b u, H1 b = some u -> b ≠ o -> b ≠ la -> upd H5 o (.lst (((O.set v.1.toNat z.1).set v.2.1.toNat z.2).map V.int)) b = some u := fun b u e e1 e2 => by rw [upd_ne e1]; exact fr b u e e1 e2
  have ho7 : upd H5 o (.lst (((O.set v.1.toNat z.1).set v.2.1.toNat z.2).map V.int)) o = some (.lst (((O.set v.1.toNat z.1).set v.2.1.toNat z.2).map V.int)) := upd_same
  have hla7 : upd H5 o (.lst (((O.set v.1.toNat z.1).set v.2.1.toNat z.2).map V.int)) la = some (.lst (las.map V.ref)) := by rw [upd_ne (Ne.symm n7)]; exact hla5
  have hT7 : TupsH (upd H5 o (.lst (((O.set v.1.toNat z.1).set v.2.1.toNat z.2).map V.int))) las ((is.take j).map fun i => [Mt.lo (R.getD i (0, 0)).1 (R.getD i (0, 0)).2, Mt.hi (R.getD i (0, 0)).1 (R.getD i (0, 0)).2]) := TupsH.at' hT5 fun b xs e => by rw [upd_ne (ne_of e ho5 (by intro y; cases y))]; exact e
  generalize upd H5 o (.lst (((O.set v.1.toNat z.1).set v.2.1.toNat z.2).map V.int)) = H7 at fr7 ho7 hla7 hT7 ⊢
  have f7 := four H7 fr7
  have lT7 := Paired.length hT7
  rw [List.length_map, List.length_take] at lT7
  refine ⟨_, rfl, .inl ⟨rfl, _, SqL.of hla7⟩, _, rfl, _, rfl, ls, _, _, _, rfl, rfl, SqL.of f7.2.1, ats, rs, _, _, _, rfl, rfl, SqT.of f7.2.2.2, (show _ = some (V.int z.1) from rfl), _, rfl, _, rfl, ls, _, _, _, rfl, rfl, SqL.of f7.2.1, ats, rs, _, _, _, rfl, rfl, SqT.of f7.2.2.2, (show _ = some (V.int z.2) from rfl), z.1, z.2, rfl, fun y hy => ?_⟩
  have s8 : Same H7 (upd H7 y (.tup [.int (Mt.lo z.1 z.2), .int (Mt.hi z.1 z.2)])) := Same.new hy
  have hy8 : upd H7 y (.tup [.int (Mt.lo z.1 z.2), .int (Mt.hi z.1 z.2)]) y = some (.tup ([Mt.lo z.1 z.2, Mt.hi z.1 z.2].map V.int)) := upd_same
  generalize upd H7 y (.tup [.int (Mt.lo z.1 z.2), .int (Mt.hi z.1 z.2)]) = H8 at s8 hy8 ⊢
  have hla8 := s8 la _ hla7
  refine ⟨la, _, _, rfl, rfl, hla8, small1000 (by rw [List.length_map]; (first | lia | omega)), ?_⟩
  have nyl : y ≠ la := ne_of hy8 hla8 (by intro q; cases q)
  have fr9 : ∀ b u, H1 b = some u -> b ≠ o -> b ≠ la -> upd H8 la (.lst (las.map V.ref ++ [.ref y])) b = some u := fun b u e e1 e2 => by rw [upd_ne e2]; exact s8 b u (fr7 b u e e1 e2)
  have f9 := four _ fr9
  refine ⟨_, rfl, _, rfl, _, rfl, tl, _, _, _, rfl, rfl, SqL.of f9.1, att, rt, _, _, _, rfl, rfl, SqT.of f9.2.2.1, (show _ = some (V.int v.2.2) from rfl), _, _, rfl, rfl, ?_⟩
  dsimp only [gName, List.set_cons_succ, List.set_cons_zero]
  have etk : is.take (j + 1) = is.take j ++ [i] := by rw [List.take_succ, ei]; rfl
  refine ⟨_, las ++ [y], _, rfl, fr9, ?_, by rw [upd_same, List.map_append]; rfl, ?_, ?_, hjl⟩
  ·rw [upd_ne n7, s8 o _ ho7, etk, List.foldl_append, hO, List.foldl_cons, List.foldl_nil, elay]
  ·rw [etk, List.map_append, List.map_cons, List.map_nil, hz]
   refine paired_snoc (TupsH.at' hT7 fun b xs e => by rw [upd_ne (ne_of e hla7 (by intro q; cases q))]; exact s8 b _ e) ⟨by rw [upd_ne nyl]; exact hy8, fun q => by cases q⟩
  ·rw [etk, List.map_append, List.map_cons, List.map_nil, List.sum_append, ed, hv]
   simp
   (first | lia | omega)
 ·rintro σ H5 ⟨du', las, e15, rfl, fr, ho5, hla5, hT5, ed, lj⟩
  rw [List.length_map, List.length_map, List.take_length] at ho5 hT5 ed
  exact k du' las e15 H5 fr ho5 hla5 hT5 ed
end
end
end K29
namespace K29
open PySem L2 PyProof.Rows
noncomputable def Rings (Gs : List (List Int)) (os : List Int) (i : Nat) (M : List (List Int)) : Prop := ∃ Ms : List (List (List Int)), Ms.length = i /\ M = Ms.flatten /\ ∀ (k : Nat) Mk G z, Ms[k]? = some Mk -> Gs[k]? = some G -> os[k]? = some z -> ∃ j : Nat, G[j]? = some z /\ Mk.Perm (prs (oth G j))
theorem Rings.snoc {Gs : List (List Int)} {os : List Int} {i : Nat} {M Mk : List (List Int)} (h : Rings Gs os i M) (hk : ∀ G z, Gs[i]? = some G -> os[i]? = some z -> ∃ j : Nat, G[j]? = some z /\ Mk.Perm (prs (oth G j))) : Rings Gs os (i + 1) (M ++ Mk) := by
 refine gz9 fun _ bk0 => ?_
 obtain ⟨Ms, l, rfl, hm⟩ := h
 refine bk0 ?_
 refine ⟨Ms ++ [Mk], by rw [List.length_append, l]; rfl, by simp, fun k X G z eX eG ez => ?_⟩
 rcases Nat.lt_or_ge k Ms.length with q | q
 ·rw [List.getElem?_append_left q] at eX
  exact hm k X G z eX eG ez
 ·have hj := (List.getElem?_eq_some_iff.mp eX).1
  rw [List.length_append, List.length_singleton] at hj
  have e : k = i := by (first | lia | omega)
  subst e
  rw [List.getElem?_append_right q, l, Nat.sub_self] at eX
  cases (Option.some.inj eX)
  exact hk G z eG ez
section
variable {P : Program} {w : World} {K : W.Frag} {mg : Str -> Option Value} {base : Heap} {C : Addr}
section
variable {f : Addr} {cdv : Value} {A : Around} {outer : List Env} {s : Shared} {H : Hp} {E : L2.XK}
noncomputable def compPr : Scope := { kind := .function, names := [(Str.ofString ".0", .local), (Str.ofString "_law_pair", .local), (Str.ofString "_law_ties", .free)], isGenerator := false, isCoroutine := false, more := [] }
theorem nd_compPr : ([".0", "_law_pair", "_law_ties"] : List Str).Nodup := by decide +kernel
theorem capsPr {f : Addr} {cdv : Value} {A : Around} {outer : List Env} {s : Shared} {H : Hp} {E : L2.XK} : Caps (XL P w K mg base f cdv A outer s H E) compPr [(Str.ofString "_law_ties", s.heap.objs.size + 1 + 1)] [".0", "_law_pair"] ["_law_ties"] [4] := by
 have e1 : (XL P w K mg base f cdv A outer s H E).env.cells = [(Str.ofString "_law_ties", s.heap.objs.size + 1 + 1), (Str.ofString "_law_head", s.heap.objs.size + 1)] := by rfl
 have e2 : (relabel compPr (XL P w K mg base f cdv A outer s H E).env).names = [(Str.ofString ".0", .local), (Str.ofString "_law_pair", .local), (Str.ofString "_law_ties", .cell)] := by rfl
 refine ⟨rfl, fun x c h => ?_, rfl, by decide +kernel, by decide +kernel, fun x hx => ?_, rfl, fun i x e => ?_⟩
 ·have hx : (x = Str.ofString "_law_ties" /\ c = s.heap.objs.size + 1 + 1) := by
   have := PySem.mem_of_lookup h
   simpa using this
  obtain ⟨rfl, rfl⟩ := hx
  rw [e1]; rfl
 ·rw [e2] at hx
  have hx : x = Str.ofString "_law_ties" := by
   rcases hx with hx | hx
   all_goals
    have := PySem.mem_of_lookup hx
    simpa using this
  subst hx
  exact ⟨_, rfl⟩
 ·match i, e with
  | 0, e =>
   cases (Option.some.inj e)
   exact ⟨4, rfl, rfl, rfl, rfl, by rw [e2]; rfl⟩
  | n + 1, e => cases e
noncomputable def tRnd : TS := fun D σ H => ∃ (g d o la : Addr) (du : Int) (ob : Obj) (gs las : List Addr) (Gs L0 : List (List Int)) (os : List Int) (T : List Mt.Tri) (e0 e1 e2 e5 e6 e7 e8 e9 e10 e12 e15 e16 e17 : Option V), σ = [e0, e1, e2, some (.ref g), some (.ref d), e5, e6, e7, e8, e9, e10, some (.ref o), e12, some (.ref la), some (.int du), e15, e16, e17] /\ Grp H g gs Gs /\ H o = some (.lst (os.map V.int)) /\ os.length = Gs.length /\ (∀ (i : Nat) G z, Gs[i]? = some G -> os[i]? = some z -> z ∈ G) /\ (∀ G ∈ Gs, G.length % 2 = 1) /\ H la = some (.lst (las.map V.ref)) /\ TupsH H las L0 /\ L0.length <= 300 /\ H d = some (.frz ob (.dT (wd T))) /\ (∀ G ∈ Gs, 2 < G.length -> ∀ j, j < G.length -> ∀ pr ∈ prs (oth G j), pr ∈ T.map Mt.key) ∧
 ∀ (la' : Addr) (las' : List Addr) (M : List (List Int)) (e5 e16 e17 : Option V) (H' : Hp), Same H H' -> H' la' = some (.lst (las'.map V.ref)) -> TupsH H' las' (L0 ++ M) -> Rings Gs os Gs.length M -> (∀ pr ∈ M, pr ∈ T.map Mt.key) -> D.nx [e0, e1, e2, some (.ref g), some (.ref d), e5, e6, e7, e8, e9, e10, some (.ref o), e12, some (.ref la'), some (.int (du + (M.map (wt T)).sum)), e15, e16, e17] H'
theorem ok_l15 {fA : Addr} {fdA : FuncData} (gzip : mg "zip" = none) (glen : mg "len" = none) (glist : mg "list" = none) (gsum : mg "sum" = none)
  (GA : FnOk P w K mg base CX0 2 fA fdA ["ring", "out"] spAround) (mA : mg "around" = some (.ref fA)) (kA : PySem.W.keepIn K (.ref fA) = true) (bA : Binds K fdA ["ring", "out"] []) (hr2 : Room 2 (XL P w K mg base f cdv A outer s H E).A) (hu : (XL P w K mg base f cdv A outer s H E).A.units + 1 < cLine) : PS (XL P w K mg base f cdv A outer s H E) (lawAt 15) tRnd := by
 refine' PS.imp (t' := tRnd) (ps_for PassesOwn.never rfl (pi_zip rfl gzip (pa_cons (pv 3) (pa_cons (pv 11) pa_nil))) (pg_tup (n := 2) rfl (pgs_cons (pg_name (i := 5) scLaw.nd rfl (Or.inl rfl)) (pgs_cons (pg_name (i := 16) scLaw.nd rfl (Or.inl rfl)) pgs_nil))) (pss_one (ps_if (pt_cmpR op_gt (pe_callB call_len_seq (by rfl) glen PySem.boot_len (pa_cons (pv 5) pa_nil)) pe_int (nomark _)) (pss_cons ?b0 (pss_cons ?b1 (pss_one ?b2))) pss_nil))) ?_
 case b0 => exact ps_set (i := 17) scLaw.nd rfl (Or.inl rfl) (pe_call GA hr2 (by rfl) mA kA bA .nil pass0 (pa_cons (pe_callTy call_list_of (by rfl) glist boot_list (pa_cons (pv 5) pa_nil)) (pa_cons (pv 16) pa_nil)))
 case b1 =>
  refine' ps_set (i := 14) scLaw.nd rfl (Or.inl rfl) (pe_op op_add (pv 14) (pe_callB (call_sumI rfl) (by rfl) gsum boot_sum (pa_cons ?cc pa_nil)))
  case cc => exact pe_comp (g := gName 1) (own := [".0", "_law_pair"]) (caps := ["_law_ties"]) (js := [4]) rfl capsPr (pi_list (pv 17)) (fun pins C s H1 fp => pg_name (i := 1) nd_compPr rfl (Or.inl rfl) (Or.inr rfl)) (fun pins C s H1 fp => pts_nil) (fun pins C s H1 fp => pe_dget hu (pv 2) (pv 1) (fun _ _ => rfl))
 case b2 => exact ps_set (i := 13) scLaw.nd rfl (Or.inl rfl) (pe_op op_cat (pv 13) (pv 17))
 rintro D σ H1 ⟨g, d, o, la, du, ob, gs, las, Gs, L0, os, T, e0, e1, e2, e5, e6, e7, e8, e9, e10, e12, e15, e16, e17, rfl, G, ho, lo, hin, od, hla, hL0, l0, hd, hring, kk0⟩
 have lg := Paired.length G.ls
 have lG := G.len
 have lenG : ∀ G' ∈ Gs, G'.length <= 24 := fun G' h => by
  obtain ⟨s, t, e⟩ := List.append_of_mem h
  have := G.all
  rw [e, List.flatten_append, List.flatten_cons, List.length_append, List.length_append] at this
  (first | lia | omega)
 have ndG : ∀ G' ∈ Gs, G'.Nodup := fun G' h => by
  obtain ⟨s, t, e⟩ := List.append_of_mem h
  have := G.nd
  rw [e, List.flatten_append, List.flatten_cons, List.nodup_append] at this
  exact (List.nodup_append.mp this.2.1).1
 refine ⟨_, rfl, _, rfl, g, o, rfl, ⟨_, SqL.of G.lst⟩, ⟨_, SqL.of ho⟩, for_zip (K := K) (a := g) (b := o) (xs := gs.map V.ref) (ys := os.map V.int)
  (fun i σ H5 => ∃ (la' : Addr) (las' : List Addr) (M : List (List Int)) (e5 e16 e17 : Option V), σ = [e0, e1, e2, some (.ref g), some (.ref d), e5, e6, e7, e8, e9, e10, some (.ref o), e12, some (.ref la'), some (.int (du + (M.map (wt T)).sum)), e15, e16, e17] /\ Same H1 H5 /\ H5 la' = some (.lst (las'.map V.ref)) /\ TupsH H5 las' (L0 ++ M) /\ Rings Gs os i M /\ (∀ pr ∈ M, pr ∈ T.map Mt.key) /\ M.length <= 12 * i)
  (by rw [List.length_map, List.length_map]; (first | lia | omega)) ⟨la, las, [], e5, e16, e17, by simp, Same.refl _, hla, by rw [List.append_nil]; exact hL0, ⟨[], rfl, rfl, fun k Mk G z e => by simp at e⟩, fun pr h => (nomatch h), Nat.le_refl _⟩ (fun i σ H5 _ h5 => by obtain ⟨_, _, _, _, _, _, _, s5, _⟩ := h5; exact ⟨SqL.of (s5 g _ G.lst), SqL.of (s5 o _ ho)⟩) ?_ ?_⟩
 ·rintro i x y t σ H5 hx hy ⟨la', las', M, e5, e16, e17, rfl, s5, hla5, hT5, rM, kM, lM⟩ nt
  rw [List.getElem?_map] at hx
  refine gz9 fun _ bk0 => ?_
  obtain ⟨r, er, rfl⟩ := Option.map_eq_some_iff.mp hx
  obtain ⟨z, rfl, ez⟩ := map_int_at hy
  obtain ⟨G1, eG, hr0⟩ := Sx.pair_at (i := i) (a := r) G.ls er
  refine bk0 ?_
  have hG1 := List.mem_of_getElem? eG
  have zin := hin i G1 z eG ez
  have hil : i < Gs.length := (List.getElem?_eq_some_iff.mp eG).1
  have s6 : Same H5 (upd H5 t (.tup [.ref r, .int z])) := Same.new nt
  have ht6 : upd H5 t (.tup [.ref r, .int z]) t = some (.tup [.ref r, .int z]) := upd_same
  generalize upd H5 t (.tup [.ref r, .int z]) = H6 at s6 ht6 ⊢
  refine ⟨t, _, rfl, SqT.of ht6, rfl, _, _, rfl, _, _, rfl, rfl, ?_⟩
  dsimp only [gName, List.set_cons_succ, List.set_cons_zero]
  have s16 := s5.trans s6
  have hr6 := s16 r _ hr0
  obtain ⟨j, hj, ej⟩ := List.getElem_of_mem zin
  have ez1 : G1[j]? = some z := by rw [List.getElem?_eq_getElem hj, ej]
  refine ⟨_, rfl, r, _, rfl, .inl (SqL.of hr6), _, _, rfl, rfl, _, rfl, ?_⟩
  rw [List.length_map]
  refine ite2 (fun c => ?_) (fun c => ?_)
  case refine_2 =>
   have c : ¬ (2 : Int) < G1.length := fun q => c (decide_eq_true q)
   have l1 : G1.length = 1 := by have := od G1 hG1; (first | lia | omega)
   refine ⟨la', las', M, _, _, _, rfl, s16, s6 _ _ hla5, TupsH.same s6 hT5, ?_, kM, by (first | lia | omega)⟩
   have := rM.snoc (Mk := []) fun G' z' eG' ez' => by
    rw [eG] at eG'
    cases eG'
    rw [ez] at ez'
    cases ez'
    refine ⟨j, ez1, ?_⟩
    have lo' := oth_len hj
    have : oth G1 j = [] := List.length_eq_zero_iff.mp (by (first | lia | omega))
    rw [this]
    exact List.Perm.refl _
   rwa [List.append_nil] at this
  have c : (2 : Int) < G1.length := of_decide_eq_true c
  refine ⟨_, rfl, r, _, rfl, .inl (SqL.of hr6), fun q nq => ?_⟩
  have s7 : Same H6 (upd H6 q (.lst (G1.map V.int))) := Same.new nq
  have hq7 : upd H6 q (.lst (G1.map V.int)) q = some (.lst (G1.map V.int)) := upd_same
  generalize upd H6 q (.lst (G1.map V.int)) = H7 at s7 hq7 ⊢
  have l24 := lenG G1 hG1
  refine ⟨_, rfl, q, G1, j, z, rfl, hq7, ez1, first_of (ndG G1 hG1) ez1, od G1 hG1, by (first | lia | omega), fun l qs ts H8 nl s8 hl hts pm srt => ?_⟩
  dsimp only [gName, List.set_cons_succ, List.set_cons_zero]
  have s18 := s16.trans (s7.trans s8)
  have hk : ∀ pr ∈ ts, pr ∈ T.map Mt.key := fun pr h => hring G1 hG1 (by (first | lia | omega)) j hj pr (pm.mem_iff.mp h)
  have lts : ts.length <= 12 := by rw [pm.length_eq, prs_len, oth_len hj]; (first | lia | omega)
  have lqs := Paired.length hts
  refine ⟨_, rfl, _, rfl, l, rfl, ⟨_, SqL.of hl⟩, fun D2 hD2 => ?_⟩
  refine turns_list (K := K) (a := l) (xs := qs.map V.ref) (fun n ys σ H9 => ∃ (e0 e1 : Option V), ys = ((ts.take n).map (wt T)).map V.int /\ σ = [e0, e1, some (.ref d)] /\ Same H8 H9 /\ H9 D2 = some (.lst ys)) ⟨none, none, rfl, rfl, Same.new hD2, upd_same⟩ ?_ ?_ ?_
  ·rintro n ys σ H9 ⟨e0, e1, rfl, rfl, s9, hD9⟩
   refine ⟨hD9, small1000 ?_, SqL.of (s9 l _ hl)⟩
   rw [List.length_map, List.length_map, List.length_take]
   (first | lia | omega)
  ·rintro n x0 ys σ H9 hn ⟨e0, e1, rfl, rfl, s9, hD9⟩
   have hnl : n < (qs.map V.ref).length := (List.getElem?_eq_some_iff.mp hn).1
   refine gz9 fun _ bk0 => ?_
   obtain ⟨r1, t1, rfl, et1, hr1⟩ := tup_at hts hn
   refine bk0 ?_
   unfold gName
   refine yes_of ?_
   have hk1 := hk t1 (List.mem_of_getElem? et1)
   have hval : valV (wd T) (t1.map Sum.inl) = some (.int (wt T t1)) := by
    obtain ⟨v, hv, rfl⟩ := List.mem_map.mp hk1
    exact wt_val hv
   refine ⟨_, rfl, _, rfl, d, .int (wt T t1), rfl, .inr ⟨wd T, t1.map Sum.inl, r1, .inr ⟨ob, (s18.trans s9) d _ hd⟩, rfl, by rw [s9 r1 _ hr1, List.map_map]; rfl, hval.symm⟩, hD9, Nxt.mk hnl ⟨_, _, ?_, rfl, fun b u e => ?_, upd_same⟩⟩
   ·rw [List.take_succ, et1, List.map_append, List.map_append]
    rfl
   ·rw [upd_ne (ne_of_none e hD2)]; exact s9 b u e
  ·rintro ys σ H9 ⟨e0, e1, rfl, rfl, s9, hD9⟩
   rw [List.length_map, lqs, List.take_length] at hD9
   refine ⟨D2, ts.map (wt T), rfl, SqL.of hD9, _, _, rfl, rfl, ?_⟩
   dsimp only [gName, List.set_cons_succ, List.set_cons_zero]
   have s59 := s6.trans (s7.trans (s8.trans s9))
   have hla9 := s59 la' _ hla5
   have hl9 := s9 l _ hl
   have lT5 := Paired.length hT5
   rw [List.length_append] at lT5
   refine ⟨_, rfl, _, rfl, la', l, _, _, rfl, rfl, hla9, hl9, Nat.le_of_lt (small1000 (by rw [List.length_map, List.length_map]; (first | lia | omega))), fun p np => ?_⟩
   have s10 : Same H9 (upd H9 p (.lst (las'.map V.ref ++ qs.map V.ref))) := Same.new np
   have hp10 : upd H9 p (.lst (las'.map V.ref ++ qs.map V.ref)) p = some (.lst ((las' ++ qs).map V.ref)) := by rw [upd_same, List.map_append]
   dsimp only [gName, List.set_cons_succ, List.set_cons_zero]
   generalize upd H9 p (.lst (las'.map V.ref ++ qs.map V.ref)) = H10 at s10 hp10 ⊢
   refine ⟨p, las' ++ qs, M ++ ts, some (.ref r), some (.int z), some (.ref l), ?_, (s5.trans s59).trans s10, hp10, ?_, ?_, fun pr h => ?_, by rw [List.length_append]; (first | lia | omega)⟩
   ·rw [List.map_append, List.sum_append, <- Int.add_assoc]
   ·rw [<- List.append_assoc]
    exact paired_app (TupsH.same (s59.trans s10) hT5) (TupsH.same (s9.trans s10) hts)
   ·refine rM.snoc fun G' z' eG' ez' => ?_
    rw [eG] at eG'
    cases eG'
    rw [ez] at ez'
    cases ez'
    exact ⟨j, ez1, pm⟩
   ·rcases List.mem_append.mp h with q | q
    ·exact kM pr q
    ·exact hk pr q
 ·rintro σ H5 ⟨la', las', M, e5, e16, e17, rfl, s5, hla5, hT5, rM, kM, lM⟩
  rw [List.length_map, lg] at rM
  exact kk0 la' las' M e5 e16 e17 H5 s5 hla5 hT5 rM kM
end
end
end K29
namespace K29
open PySem L2 PyProof.Rows
theorem lohi_of {x y : Int} (h : x < y) : [Mt.lo x y, Mt.hi x y] = [x, y] /\ [Mt.lo y x, Mt.hi y x] = [x, y] := by
 unfold Mt.lo Mt.hi
 constructor
 ·rw [if_neg (by (first | lia | omega)), if_pos (by (first | lia | omega))]
 ·rw [if_pos (by (first | lia | omega)), if_neg (by (first | lia | omega))]
theorem ring_keys {G : List Int} {ks : List (List Int)} (nd : G.Nodup) (c : 2 < G.length) (h : ∀ i, i < G.length -> nbr G i ∈ ks) {j : Nat} (hj : j < G.length) {pr : List Int} (hp : pr ∈ prs (oth G j)) : pr ∈ ks := by
 refine gz9 fun _ bk0 => ?_
 obtain ⟨x, y, a, b, rfl, lt, ea, eb, o⟩ := prs_mem nd hj hp
 have la := (List.getElem?_eq_some_iff.mp ea).1
 have lb := (List.getElem?_eq_some_iff.mp eb).1
 have ga : G.getD a 0 = x := by rw [List.getD_eq_getElem?_getD, ea]; rfl
 have gb : G.getD b 0 = y := by rw [List.getD_eq_getElem?_getD, eb]; rfl
 obtain ⟨e1, e2⟩ := lohi_of lt
 refine bk0 ?_
 have step : ∀ p q : Nat, p < G.length -> q < G.length -> (q = p + 1 \/ (q = 0 /\ p + 1 = G.length)) -> (q + G.length - 1) % G.length = p := fun p q hp hq o => by
  rcases o with o | ⟨o, o'⟩
  ·rw [show q + G.length - 1 = p + G.length by (first | lia | omega), Nat.add_mod_right, Nat.mod_eq_of_lt hp]
  ·rw [o, Nat.zero_add, Nat.mod_eq_of_lt (by (first | lia | omega))]
   (first | lia | omega)
 have fwd : (b = a + 1 \/ (b = 0 /\ a + 1 = G.length)) -> [x, y] ∈ ks := fun o => by
  have := h b lb
  unfold nbr at this
  rw [step a b la lb o, ga, gb, e1] at this
  exact this
 have bwd : (a = b + 1 \/ (a = 0 /\ b + 1 = G.length)) -> [x, y] ∈ ks := fun o => by
  have := h a la
  unfold nbr at this
  rw [step b a lb la o, ga, gb, e2] at this
  exact this
 by_cases q1 : b = a + 1 \/ (b = 0 /\ a + 1 = G.length)
 ·exact fwd q1
 ·exact bwd (by (first | lia | omega))
theorem lay_out {U : List Mt.Tri} {R : List (Int × Int)} {n : Nat} {is : List Nat} : ∀ {os : List Int}, (∀ i ∈ is, 0 <= (tAt U i).1 /\ 0 <= (tAt U i).2.1) -> (n : Int) ∉ is.flatMap (endsAt U) -> (is.foldl (lay1 U R) os)[n]? = os[n]? := by
 induction is with
 | nil => intro os _ _; rfl
 | cons i is ih =>
  intro os rg h
  rw [List.flatMap_cons, List.mem_append] at h
  obtain ⟨p0, p1⟩ := rg i (.head _)
  rw [List.foldl_cons, ih (fun i hi => rg i (.tail _ hi)) fun z => h (.inr z)]
  have n1 : (tAt U i).1.toNat ≠ n := fun z => h (.inl (by unfold endsAt; rw [show (n : Int) = (tAt U i).1 by (first | lia | omega)]; exact .head _))
  have n2 : (tAt U i).2.1.toNat ≠ n := fun z => h (.inl (by unfold endsAt; rw [show (n : Int) = (tAt U i).2.1 by (first | lia | omega)]; exact .tail _ (.head _)))
  unfold lay1
  rw [List.getElem?_set_ne n2, List.getElem?_set_ne n1]
theorem lay_in {U : List Mt.Tri} {R : List (Int × Int)} {is : List Nat} : ∀ {os : List Int}, (∀ i ∈ is, 0 <= (tAt U i).1 /\ (tAt U i).1 < os.length /\ 0 <= (tAt U i).2.1 /\ (tAt U i).2.1 < os.length) -> (is.flatMap (endsAt U)).Nodup -> ∀ i ∈ is, (is.foldl (lay1 U R) os)[(tAt U i).1.toNat]? = some (R.getD i (0, 0)).1 /\ (is.foldl (lay1 U R) os)[(tAt U i).2.1.toNat]? = some (R.getD i (0, 0)).2 := by
 induction is with
 | nil => intro os _ _ i hi; exact nomatch hi
 | cons k is ih =>
  intro os rg nd i hi
  rw [List.flatMap_cons, List.nodup_append] at nd
  obtain ⟨nk, nd', dj⟩ := nd
  have ll : (lay1 U R os k).length = os.length := by unfold lay1; rw [List.length_set, List.length_set]
  rw [List.foldl_cons]
  rcases List.mem_cons.mp hi with rfl | hi'
  ·obtain ⟨p0, p1, p2, p3⟩ := rg i (.head _)
   have rg' : ∀ k ∈ is, 0 <= (tAt U k).1 /\ 0 <= (tAt U k).2.1 := fun k hk => ⟨(rg k (.tail _ hk)).1, (rg k (.tail _ hk)).2.2.1⟩
   have m1 : (tAt U i).1 ∈ endsAt U i := .head _
   have m2 : (tAt U i).2.1 ∈ endsAt U i := .tail _ (.head _)
   have ne : (tAt U i).1 ≠ (tAt U i).2.1 := fun z => by
    have : [(tAt U i).1, (tAt U i).2.1].Nodup := nk
    simp at this
    exact this z
   rw [lay_out rg' fun z => dj _ m1 _ z (by (first | lia | omega)), lay_out rg' fun z => dj _ m2 _ z (by (first | lia | omega))]
   unfold lay1
   constructor
   ·rw [List.getElem?_set_ne (by (first | lia | omega)), List.getElem?_set_self (by (first | lia | omega))]
   ·rw [List.getElem?_set_self (by rw [List.length_set]; (first | lia | omega))]
  ·exact ih (fun k hk => by rw [ll]; exact rg k (.tail _ hk)) nd' i hi'
end K29
namespace K29
open PySem L2 PyProof.Rows
theorem Rings.at_ {Gs : List (List Int)} {os : List Int} {n : Nat} {M : List (List Int)} (h : Rings Gs os n M) (hn : n = Gs.length) (lo : os.length = Gs.length) (ndF : Gs.flatten.Nodup) (od : ∀ G ∈ Gs, G.length % 2 = 1) : ∃ Ms : List (List Int), Ms.length = n /\ M.flatten = Ms.flatten /\ ∀ (k : Nat) X, Ms[k]? = some X -> ∃ G z, Gs[k]? = some G /\ os[k]? = some z /\ X.Nodup /\ (∀ x ∈ X, x ∈ G /\ x ≠ z) /\ X.length + 1 = G.length := by
 refine gz9 fun _ bk0 => ?_
 obtain ⟨Ms, l, rfl, hm⟩ := h
 refine bk0 ?_
 refine ⟨Ms.map List.flatten, by rw [List.length_map, l], List.flatten_flatten, fun k X eX => ?_⟩
 rw [List.getElem?_map] at eX
 refine gz9 fun _ bk0 => ?_
 obtain ⟨Mk, eM, rfl⟩ := Option.map_eq_some_iff.mp eX
 have hk : k < Gs.length := by have := (List.getElem?_eq_some_iff.mp eM).1; (first | lia | omega)
 have eG : Gs[k]? = some Gs[k] := by simp [hk]
 have ez : os[k]? = some (os[k]'(by (first | lia | omega))) := by simp
 obtain ⟨j, ej, pm⟩ := hm k Mk _ _ eM eG ez
 refine bk0 ?_
 have hG := List.mem_of_getElem? eG
 have ndG : Gs[k].Nodup := by
  obtain ⟨s, t, e⟩ := List.append_of_mem hG
  rw [e, List.flatten_append, List.flatten_cons, List.nodup_append] at ndF
  exact (List.nodup_append.mp ndF.2.1).1
 have hj := (List.getElem?_eq_some_iff.mp ej).1
 have lo' := oth_len hj
 have o1 := od _ hG
 have pf : Mk.flatten.Perm (oth Gs[k] j) := (pm.flatten).trans (prs_flat _ (by (first | lia | omega)))
 have po := oth_perm ndG ej
 refine ⟨_, _, eG, ez, pf.nodup_iff.mpr (po.nodup_iff.mp (ndG.filter _)), fun x hx => ?_, by rw [pf.length_eq]; (first | lia | omega)⟩
 have := po.mem_iff.mpr (pf.mem_iff.mp hx)
 rw [List.mem_filter] at this
 exact ⟨this.1, of_decide_eq_true this.2⟩
theorem laid_nodup {Gs : List (List Int)} {os E : List Int} {M : List (List Int)} (h : Rings Gs os Gs.length M) (lo : os.length = Gs.length) (ndF : Gs.flatten.Nodup) (od : ∀ G ∈ Gs, G.length % 2 = 1) (hin : ∀ (i : Nat) G z, Gs[i]? = some G -> os[i]? = some z -> z ∈ G) (ndE : E.Nodup) (rg : ∀ e ∈ E, 0 <= e /\ e < (Gs.length : Int)) : (E.map (fun e => os.getD e.toNat 0) ++ M.flatten).Nodup := by
 refine gz9 fun _ bk0 => ?_
 obtain ⟨Ms, lM, eM, hm⟩ := h.at_ rfl lo ndF od
 refine bk0 ?_
 have val : ∀ e ∈ E, ∃ G z, Gs[e.toNat]? = some G /\ os[e.toNat]? = some z /\ os.getD e.toNat 0 = z /\ z ∈ G := fun e he => by
  obtain ⟨e0, e1⟩ := rg e he
  have h1 : e.toNat < Gs.length := by (first | lia | omega)
  have h2 : e.toNat < os.length := by (first | lia | omega)
  refine ⟨Gs[e.toNat], os[e.toNat], by simp [h1], by simp [h2], by rw [List.getD_eq_getElem?_getD, List.getElem?_eq_getElem h2]; rfl, hin e.toNat _ _ (by simp [h1]) (by simp [h2])⟩
 rw [eM, List.nodup_append]
 refine ⟨?_, ?_, fun x hx y hy q => ?_⟩
 ·refine List.pairwise_map.mpr ((List.Pairwise.and_mem.mp ndE).imp fun {a b} h => ?_)
  refine gz9 fun _ bk0 => ?_
  obtain ⟨ha, hb, ne⟩ := h
  obtain ⟨G, z, eG, ez, ev, zin⟩ := val a ha
  obtain ⟨G', z', eG', ez', ev', zin'⟩ := val b hb
  refine bk0 ?_
  rw [ev, ev']
  intro w
  subst w
  have := flat_at ndF eG eG' zin zin'
  have := rg a ha
  have := rg b hb
  (first | lia | omega)
 ·refine List.pairwise_flatten.mpr ⟨fun X hX => ?_, ?_⟩
  ·obtain ⟨k, hk, e⟩ := List.getElem_of_mem hX
   refine gz9 fun _ bk0 => ?_
   obtain ⟨_, _, _, _, nd, _⟩ := hm k X (by rw [List.getElem?_eq_getElem hk, e])
   refine bk0 ?_
   exact nd
  ·refine List.pairwise_iff_getElem.mpr fun i j hi hj lt x hx y hy w => ?_
   subst w
   refine gz9 fun _ bk0 => ?_
   obtain ⟨G, _, eG, _, _, a, _⟩ := hm i _ (List.getElem?_eq_getElem hi)
   obtain ⟨G', _, eG', _, _, a', _⟩ := hm j _ (List.getElem?_eq_getElem hj)
   refine bk0 ?_
   have := flat_at ndF eG eG' (a x hx).1 (a' x hy).1
   (first | lia | omega)
 ·subst q
  refine gz9 fun _ bk0 => ?_
  obtain ⟨e, he, rfl⟩ := List.mem_map.mp hx
  obtain ⟨G, z, eG, ez, ev, zin⟩ := val e he
  obtain ⟨X, hX, hx2⟩ := List.mem_flatten.mp hy
  obtain ⟨k, hk, eX⟩ := List.getElem_of_mem hX
  obtain ⟨G', z', eG', ez', _, a, _⟩ := hm k X (by rw [List.getElem?_eq_getElem hk, eX])
  obtain ⟨i1, i2⟩ := a _ hx2
  refine bk0 ?_
  rw [ev] at i1 i2
  have := flat_at ndF eG eG' zin i1
  rw [<- this, ez] at ez'
  exact i2 (Option.some.inj ez')
theorem flat_add {A : List (List Int)} : ∀ {B : List (List Int)}, A.length = B.length -> (∀ (k : Nat) X Y, A[k]? = some X -> B[k]? = some Y -> X.length + 1 = Y.length) -> A.flatten.length + B.length = B.flatten.length := by
 induction A with
 | nil =>
  intro B l _
  rw [List.length_eq_zero_iff.mp l.symm]
  rfl
 | cons X A ih =>
  intro B l h
  cases B with
  | nil => exact nomatch l
  | cons Y B =>
   have h0 := h 0 X Y rfl rfl
   have := ih (B := B) (Nat.succ.inj l) fun k X' Y' e1 e2 => h (k + 1) X' Y' e1 e2
   rw [List.flatten_cons, List.flatten_cons, List.length_append, List.length_append, List.length_cons]
   (first | lia | omega)
theorem Rings.count {Gs : List (List Int)} {os : List Int} {M : List (List Int)} (h : Rings Gs os Gs.length M) (lo : os.length = Gs.length) (ndF : Gs.flatten.Nodup) (od : ∀ G ∈ Gs, G.length % 2 = 1) : M.flatten.length + Gs.length = Gs.flatten.length := by
 refine gz9 fun _ bk0 => ?_
 obtain ⟨Ms, lM, eM, hm⟩ := h.at_ rfl lo ndF od
 refine bk0 ?_
 rw [eM]
 refine flat_add lM fun k X Y eX eY => ?_
 refine gz9 fun _ bk0 => ?_
 obtain ⟨G, z, eG, _, _, _, l⟩ := hm k X eX
 refine bk0 ?_
 rw [eG] at eY
 cases eY
 exact l
end K29
namespace K29
open PySem L2 PyProof.Rows
theorem prt_has (U : List Mt.Tri) (a : Int) : (valV (prt U) (.inl a)).isSome = decide (a ∈ (U.map Mt.key).flatten) := by
 have go : ∀ (U : List Mt.Tri) (d : List (Key × V)), (valV (U.foldl (fun d u => putK (putK d (.inl (Mt.lo u.1 u.2.1)) (.int (Mt.hi u.1 u.2.1))) (.inl (Mt.hi u.1 u.2.1)) (.int (Mt.lo u.1 u.2.1))) d) (.inl a)).isSome = ((valV d (.inl a)).isSome || decide (a ∈ (U.map Mt.key).flatten)) := by
  intro U
  induction U with
  | nil => intro d; simp
  | cons u U ih =>
   intro d
   rw [List.foldl_cons, ih, valV_put, valV_put, List.map_cons, List.flatten_cons]
   have ek : Mt.key u = [Mt.lo u.1 u.2.1, Mt.hi u.1 u.2.1] := rfl
   by_cases c2 : a = Mt.hi u.1 u.2.1
   ·rw [if_pos (by rw [c2]), decide_eq_true (show a ∈ Mt.key u ++ _ from List.mem_append_left _ (by rw [ek, c2]; exact .tail _ (.head _)))]
    simp
   ·rw [if_neg fun z => c2 (by injection z)]
    by_cases c1 : a = Mt.lo u.1 u.2.1
    ·rw [if_pos (by rw [c1]), decide_eq_true (show a ∈ Mt.key u ++ _ from List.mem_append_left _ (by rw [ek, c1]; exact .head _))]
     simp
    ·rw [if_neg fun z => c1 (by injection z)]
     congr 1
     rw [decide_eq_decide, List.mem_append, ek]
     exact ⟨.inr, fun z => z.elim (fun q => by
      rcases List.mem_cons.mp q with q | q
      ·exact absurd q c1
      ·exact absurd (List.mem_singleton.mp q) c2) id⟩
 have := go U []
 unfold prt
 rw [this]
 rfl
theorem lft_count {U : List Mt.Tri} {n : Nat} (nd : (U.map Mt.key).flatten.Nodup) (rg : ∀ x ∈ (U.map Mt.key).flatten, 0 <= x /\ x < (n : Int)) : (lft U n).length + (U.map Mt.key).flatten.length = n := by
 have e : lft U n = (upto n).filter fun a => !decide (a ∈ (U.map Mt.key).flatten) := by
  unfold lft upto
  exact List.filter_congr fun a _ => by rw [prt_has]
 have p : ((upto n).filter fun a => decide (a ∈ (U.map Mt.key).flatten)).Perm (U.map Mt.key).flatten := by
  refine (List.perm_ext_iff_of_nodup ((upto_nd n).filter _) nd).mpr fun x => ?_
  rw [List.mem_filter, upto_mem]
  exact ⟨fun h => of_decide_eq_true h.2, fun h => ⟨rg x h, decide_eq_true h⟩⟩
 rw [e, <- p.length_eq, <- List.countP_eq_length_filter, <- List.countP_eq_length_filter]
 have := List.length_eq_countP_add_countP (fun a => decide (a ∈ (U.map Mt.key).flatten)) (l := upto n)
 rw [upto_len] at this
 have e2 : (upto n).countP (fun a => !decide (a ∈ (U.map Mt.key).flatten)) = (upto n).countP (fun a => decide ¬ (decide (a ∈ (U.map Mt.key).flatten) = true)) := List.countP_congr fun a _ => by simp
 rw [e2]
 (first | lia | omega)
end K29
namespace L2
open PySem PySem.Spec PyProof.Rows
section
variable {X : Cx}
theorem op_notT : OpR X (compareOp .IsNot) (fun x y H Q => ∃ b : Bool, x = .bl b /\ y = .bl true /\ Q (.bl (!b)) H) := by
 intro pins s σ H x y v u Q I rx ry h
 refine gz9 fun _ bk0 => ?_
 obtain ⟨b, rfl, rfl, q⟩ := h
 refine bk0 ?_
 cases rx
 cases ry
 cases b with
 | true => exact wpAny_isNot_self rfl ⟨.bl false, H, I, rfl, q⟩
 | false => exact wpAny_isNot_other rfl (fun z => by cases z) ⟨.bl true, H, I, rfl, q⟩
end
end L2
namespace K29
open PySem L2 PyProof.Rows
theorem keys_in {T : List Mt.Tri} {ts : List (List Int)} (h : ∀ t ∈ ts, t ∈ T.map Mt.key) : ∃ U : List Mt.Tri, ts = U.map Mt.key /\ ∀ u ∈ U, u ∈ T := by
 induction ts with
 | nil => exact ⟨[], rfl, fun u hu => (nomatch hu)⟩
 | cons t ts ih =>
  refine gz9 fun _ bk0 => ?_
  obtain ⟨U, e, hU⟩ := ih fun t ht => h t (.tail _ ht)
  obtain ⟨u, hu, eu⟩ := List.mem_map.mp (h t (.head _))
  refine bk0 ?_
  refine ⟨u :: U, by rw [List.map_cons, eu, e], fun v hv => ?_⟩
  rcases List.mem_cons.mp hv with rfl | q
  ·exact hu
  ·exact hU v q
theorem two_len {L : List (List Int)} (h : ∀ t ∈ L, t.length = 2) : L.flatten.length = 2 * L.length := by
 induction L with
 | nil => rfl
 | cons t L ih =>
  have := ih fun t ht => h t (.tail _ ht)
  have := h t (.head _)
  rw [List.flatten_cons, List.length_append, List.length_cons]
  (first | lia | omega)
section
variable {P : Program} {w : World} {K : W.Frag} {mg : Str -> Option Value} {base : Heap} {C : Addr}
section
variable {f : Addr} {cdv : Value} {A : Around} {outer : List Env} {s : Shared} {H : Hp} {E : L2.XK}
structure Laid (C : Addr) (H : Hp) (g d x ch la : Addr) (du m : Int) (ob : Obj) (gs las : List Addr) (Gs L ks : List (List Int)) (is : List Int) (T U : List Mt.Tri) : Prop where
 hg : H g = some (.lst (gs.map V.ref))
 lg : gs.length = Gs.length
 hd : H d = some (.frz ob (.dT (wd T)))
 W : WebAt C H x m U ks
 hch : H ch = some (.lst (is.map V.int))
 hla : H la = some (.lst (las.map V.ref))
 hL : TupsH H las L
 kT : ∀ t ∈ L, t ∈ T.map Mt.key
 kU : ∀ t ∈ L, t ∈ U.map Mt.key
 nd : L.flatten.Nodup
 len : L.length <= 60
 cnt : 2 * (L.length : Int) + Gs.length = m + 2 * is.length
 wts : ∀ u ∈ U, u.2.2 = wt T (Mt.key u)
 due : du = (L.map (wt T)).sum
theorem Laid.same {H H' : Hp} {g d x ch la : Addr} {du m : Int} {ob : Obj} {gs las : List Addr} {Gs L ks : List (List Int)} {is : List Int} {T U : List Mt.Tri} (s : Same H H') (h : Laid C H g d x ch la du m ob gs las Gs L ks is T U) : Laid C H' g d x ch la du m ob gs las Gs L ks is T U :=
 ⟨s _ _ h.hg, h.lg, s _ _ h.hd, h.W.same s, s _ _ h.hch, s _ _ h.hla, TupsH.same s h.hL, h.kT, h.kU, h.nd, h.len, h.cnt, h.wts, h.due⟩
noncomputable def tIsC (C : Addr) : TS := fun D σ H => ∃ (g d x ch la : Addr) (du m : Int) (ob : Obj) (gs las : List Addr) (Gs L ks : List (List Int)) (is : List Int) (T U : List Mt.Tri) (e0 e1 e2 e5 e6 e8 e9 e10 e11 e15 e16 e17 : Option V), σ = [e0, e1, e2, some (.ref g), some (.ref d), e5, e6, some (.ref x), e8, e9, e10, e11, some (.ref ch), some (.ref la), some (.int du), e15, e16, e17] /\ Laid C H g d x ch la du m ob gs las Gs L ks is T U /\ (L.Pairwise fun a b => HT.lexLt b a = false) /\ ∀ H', Same H H' -> D.nx [e0, e1, e2, some (.ref g), some (.ref d), e5, e6, some (.ref x), e8, e9, e10, e11, some (.ref ch), some (.ref la), some (.int du), e15, e16, e17] H'
theorem ok_l17 {fL fI : Addr} {fdL fdI : FuncData} (GL : FnOk P w K mg base CX0 1 fL fdL ["_law_ties", "_law_pairs"] spLis) (mL : mg "_law_is_choice" = some (.ref fL)) (kL : PySem.W.keepIn K (.ref fL) = true) (bL : Binds K fdL ["_law_ties", "_law_pairs"] [])
  (GI : FnOk P w K mg base CX0 3 fI fdI ["web", "pairs"] (spIs C)) (mI : mg "is_choice" = some (.ref fI)) (kI : PySem.W.keepIn K (.ref fI) = true) (bI : Binds K fdI ["web", "pairs"] []) (hr3 : Room 3 (XL P w K mg base f cdv A outer s H E).A) : PS (XL P w K mg base f cdv A outer s H E) (lawAt 17) (tIsC C) := by
 have hr1 : Room 1 (XL P w K mg base f cdv A outer s H E).A := hr3.mono (by decide)
 refine' PS.imp (t' := tIsC C) (ps_if (pw_or (pt_not (pt_val (pe_call GL hr1 (by rfl) mL kL bL .nil pass0 (pa_cons (pv 4) (pa_cons (pv 13) pa_nil))))) (pw_or1 (pt_cmpR op_notT (pe_call GI hr3 (by rfl) mI kI bI .nil pass0 (pa_cons (pv 7) (pa_cons (pv 13) pa_nil))) pe_bl (nomark _)))).pt (pss_one (ps_ret pe_bl)) pss_nil) ?_
 rintro D σ H1 ⟨g, d, x, ch, la, du, m, ob, gs, las, Gs, L, ks, is, T, U, e0, e1, e2, e5, e6, e8, e9, e10, e11, e15, e16, e17, rfl, a, srt, k⟩
 have ln := a.len
 refine ⟨_, rfl, _, rfl, d, la, ob, T, las, L, rfl, a.hd, a.hla, a.hL, a.kT, a.nd, by (first | lia | omega), fun H2 s2 => ⟨true, rfl, iteF ?_⟩⟩
 have a2 := a.same s2
 have two : Two L := fun t ht => by
  obtain ⟨u, _, rfl⟩ := List.mem_map.mp (a.kU t ht)
  exact ⟨_, _, rfl⟩
 refine ⟨_, rfl, _, rfl, x, la, m, U, ks, las, L, rfl, a2.W, a2.hla, a2.hL, two, by (first | lia | omega), fun b H3 hb s3 => ?_⟩
 have eb : b = true := hb.mpr ⟨srt, a.kU, a.nd⟩
 subst eb
 exact ⟨true, rfl, rfl, _, rfl, iteF (k H3 (s2.trans s3))⟩
noncomputable def tEnd (C : Addr) : TS := fun D σ H => ∃ (g d x ch la : Addr) (du m : Int) (ob : Obj) (gs las : List Addr) (Gs L ks : List (List Int)) (is : List Int) (T U : List Mt.Tri) (e0 e1 e2 e5 e6 e8 e9 e10 e11 e15 e16 e17 : Option V), σ = [e0, e1, e2, some (.ref g), some (.ref d), e5, e6, some (.ref x), e8, e9, e10, e11, some (.ref ch), some (.ref la), some (.int du), e15, e16, e17] /\ Laid C H g d x ch la du m ob gs las Gs L ks is T U /\ ∀ H', D.rt (.bl true) H'
theorem ok_l18 {fL fW : Addr} {fdL fdW : FuncData} (glen : mg "len" = none) (GL : FnOk P w K mg base CX0 2 fL fdL ["web", "pairs"] (spLeft C)) (mL : mg "left" = some (.ref fL)) (kL : PySem.W.keepIn K (.ref fL) = true) (bL : Binds K fdL ["web", "pairs"] [])
  (GW : FnOk P w K mg base CX0 3 fW fdW ["web", "pairs"] (spWorth C)) (mW : mg "worth" = some (.ref fW)) (kW : PySem.W.keepIn K (.ref fW) = true) (bW : Binds K fdW ["web", "pairs"] []) (hr3 : Room 3 (XL P w K mg base f cdv A outer s H E).A) : PS (XL P w K mg base f cdv A outer s H E) (lawAt 18) (tEnd C) := by
 have hr2 : Room 2 (XL P w K mg base f cdv A outer s H E).A := hr3.mono (by decide)
 refine' PS.imp (t' := tEnd C) (ps_ret (pe_and (pe_cmpR op_eq (pe_callB call_len_seq (by rfl) glen PySem.boot_len (pa_cons (pe_call GL hr2 (by rfl) mL kL bL .nil pass0 (pa_cons (pv 7) (pa_cons (pv 13) pa_nil))) pa_nil)) (pe_op op_sub (pe_callB call_len_seq (by rfl) glen PySem.boot_len (pa_cons (pv 3) pa_nil)) (pe_op op_mul pe_int (pe_callB call_len_seq (by rfl) glen PySem.boot_len (pa_cons (pv 12) pa_nil)))) (nomark _)) (pe_one (pe_cmpR op_eq (pe_call GW hr3 (by rfl) mW kW bW .nil pass0 (pa_cons (pv 7) (pa_cons (pv 13) pa_nil))) (pv 14) (nomark _))))) ?_
 rintro D σ H1 ⟨g, d, x, ch, la, du, m, ob, gs, las, Gs, L, ks, is, T, U, e0, e1, e2, e5, e6, e8, e9, e10, e11, e15, e16, e17, rfl, a, k⟩
 obtain ⟨Z, eZ, hZ⟩ := keys_in a.kU
 have ln := a.len
 have lZ : L.length = Z.length := by rw [eZ, List.length_map]
 have hL1 := a.hL
 rw [eZ] at hL1
 refine ⟨_, rfl, _, rfl, x, la, m, U, ks, las, Z, rfl, a.W, a.hla, hL1, by (first | lia | omega), fun l H2 nl s2 hl => ?_⟩
 have a2 := a.same s2
 have m0 := a.W.m0
 have rgk : ∀ t ∈ U.map Mt.key, ∀ y ∈ t, 0 <= y /\ y < m := fun t ht y hy => by
  refine gz9 fun _ bk0 => ?_
  obtain ⟨u, hu, rfl⟩ := List.mem_map.mp ht
  obtain ⟨r1, r2, r3⟩ := Mt.key_range ((Mt.scan_good a.W.ok List.nodup_nil).2 u hu)
  refine bk0 ?_
  rcases List.mem_cons.mp hy with q | q
  ·(first | lia | omega)
  ·have := List.mem_singleton.mp q
   (first | lia | omega)
 have cl := lft_count (U := Z) (n := m.toNat) (by rw [<- eZ]; exact a.nd) fun y hy => by
  rw [<- eZ] at hy
  obtain ⟨t, ht, hyt⟩ := List.mem_flatten.mp hy
  have := rgk t (a.kU t ht) y hyt
  (first | lia | omega)
 rw [<- eZ, two_len (fun t ht => by obtain ⟨u, _, rfl⟩ := List.mem_map.mp (a.kU t ht); rfl)] at cl
 have cn := a.cnt
 refine ⟨l, _, rfl, .inl (SqL.of hl), _, rfl, g, _, rfl, .inl (SqL.of a2.hg), _, rfl, ch, _, rfl, .inl (SqL.of a2.hch), _, _, rfl, rfl, .inl ⟨by decide, by decide⟩, _, _, rfl, rfl, rfl, ⟨true, ?_, iteT ?_⟩⟩
 ·refine congrArg V.bl (decide_eq_true (congrArg V.int ?_))
  rw [List.length_map, List.length_map, List.length_map, a.lg]
  (first | lia | omega)
 have hL2 := a2.hL
 rw [eZ] at hL2
 refine ⟨_, rfl, _, rfl, x, la, m, U, ks, las, Z, rfl, a2.W, a2.hla, hL2, hZ, by (first | lia | omega), fun H3 s3 => ⟨_, rfl, rfl, ?_⟩⟩
 have es : (Z.map fun u => u.2.2).sum = du := by
  rw [a.due, eZ, List.map_map]
  congr 1
  exact List.map_congr_left fun u hu => a.wts u (hZ u hu)
 rw [es, decide_eq_true rfl]
 exact k H3
end
end
end K29
namespace K29
open PySem L2 PyProof.Rows
section
variable {C : Addr} {H : Hp} {p : Addr} {m : Int} {T : List Mt.Tri} {ks : List (List Int)}
theorem WebAt.pair (W : WebAt C H p m T ks) : ∀ k ∈ ks, ∃ x y, k = [x, y] /\ 0 <= x /\ x < y /\ y < m := fun k hk => by
 refine gz9 fun _ bk0 => ?_
 obtain ⟨t, ht, rfl⟩ := List.mem_map.mp (W.pm.mem_iff.mp hk)
 obtain ⟨r1, r2, r3⟩ := Mt.key_range ((Mt.scan_good W.ok List.nodup_nil).2 t ht)
 refine bk0 ?_
 exact ⟨_, _, rfl, r1, r2, r3⟩
end
section
variable {C : Addr}
theorem tie_keys {N : Int -> Int} {U : List Mt.Tri} {ks : List (List Int)} (h : Dr.Sld N U ks) : (ks.map (Dr.tieOf N U)).map Mt.key = ks := by
 rw [List.map_map]
 refine (List.map_congr_left fun k hk => ?_).trans (List.map_id _)
 refine gz9 fun _ bk0 => ?_
 obtain ⟨i, j, n, a, b, rfl, lt, _⟩ := h.two hk
 refine bk0 ?_
 show [Mt.lo i j, Mt.hi i j] = [i, j]
 unfold Mt.lo Mt.hi
 rw [if_neg (by (first | lia | omega)), if_pos (by (first | lia | omega))]
theorem tis_of {H : Hp} {p : Addr} {m : Int} {N : Int -> Int} {T : List Mt.Tri} {ks ks' : List (List Int)} (S : Dr.Sld N T ks) (W : WebAt C H p m (ks.map (Dr.tieOf N T)) ks') : tis (ks.map (Dr.tieOf N T)) ks' = ks.map fun k => Mt.tri (Dr.tieOf N T k) := by
 have tk := tie_keys S
 have pm := W.pm
 rw [tk] at pm
 have e : ks' = ks := Mt.sorted_eq pm W.srt S.srt
 rw [e]
 unfold tis
 refine List.map_congr_left fun k hk => ?_
 have hw := wt_key (T := ks.map (Dr.tieOf N T)) (by rw [tk]; exact S.nd) (Dr.tieOf N T k) (List.mem_map.mpr ⟨_, hk, rfl⟩)
 refine gz9 fun _ bk0 => ?_
 obtain ⟨i, j, _, _, _, rfl, lt, _⟩ := S.two hk
 refine bk0 ?_
 rw [Mt.key_of (t := Dr.tieOf N T [i, j]) lt] at hw
 show [i, j] ++ [wt (ks.map (Dr.tieOf N T)) [i, j]] = [i, j, (Dr.tieOf N T [i, j]).2.2]
 rw [<- hw]
 rfl
noncomputable def trisOf (U : List Mt.Tri) (ks : List (List Int)) : List Mt.Tri := ks.map fun k => (k.getD 0 0, k.getD 1 0, wt U k)
theorem tris_tis {H : Hp} {p : Addr} {m : Int} {U : List Mt.Tri} {ks : List (List Int)} (W : WebAt C H p m U ks) : tis U ks = (trisOf U ks).map Mt.tri := by
 unfold tis trisOf
 rw [List.map_map]
 refine List.map_congr_left fun k hk => ?_
 refine gz9 fun _ bk0 => ?_
 obtain ⟨a, b, rfl, _⟩ := W.pair k hk
 refine bk0 ?_
 rfl
theorem tris_mem {H : Hp} {p : Addr} {m : Int} {T U : List Mt.Tri} {ks : List (List Int)} (W : WebAt C H p m U ks) (hT : Mt.Dt m T) (er : (U.map Mt.row).Perm (T.map Mt.row)) (t : Mt.Tri) : t ∈ trisOf U ks ↔ t ∈ T := by
 have nd := (Mt.scan_good W.ok List.nodup_nil).1
 rw [List.nil_append] at nd
 have rowE : ∀ u v : Mt.Tri, Mt.row u = Mt.row v -> Mt.key u = Mt.key v /\ u.2.2 = v.2.2 := fun u v h => by
  unfold Mt.row at h
  have h2 := List.append_inj h rfl
  exact ⟨h2.1, by have := h2.2; injection this⟩
 unfold trisOf
 rw [List.mem_map]
 constructor
 ·rintro ⟨k, hk, rfl⟩
  refine gz9 fun _ bk0 => ?_
  obtain ⟨u, hu, rfl⟩ := List.mem_map.mp (W.pm.mem_iff.mp hk)
  obtain ⟨v, hv, e⟩ := List.mem_map.mp (er.mem_iff.mp (List.mem_map.mpr ⟨u, hu, rfl⟩))
  obtain ⟨e1, e2⟩ := rowE v u e
  refine bk0 ?_
  have hv1 := (hT.at_ v hv).2.1
  rw [wt_key nd u hu, <- e1, <- e2, Mt.key_of hv1]
  exact hv
 ·intro ht
  refine gz9 fun _ bk0 => ?_
  obtain ⟨u, hu, e⟩ := List.mem_map.mp (er.mem_iff.mpr (List.mem_map.mpr ⟨t, ht, rfl⟩))
  obtain ⟨e1, e2⟩ := rowE u t e
  refine bk0 ?_
  have ht1 := (hT.at_ t ht).2.1
  refine ⟨Mt.key t, W.pm.mem_iff.mpr (List.mem_map.mpr ⟨u, hu, e1⟩), ?_⟩
  rw [<- e1, wt_key nd u hu, e1, e2, Mt.key_of ht1]
  rfl
end
theorem num_in {Gs : List (List Int)} (nd : Gs.flatten.Nodup) {y : Int} (h : y ∈ Gs.flatten) : ∃ G, Gs[(Dr.numOf Gs y).toNat]? = some G /\ y ∈ G := by
 refine gz9 fun _ bk0 => ?_
 obtain ⟨G, hG, hy⟩ := List.mem_flatten.mp h
 obtain ⟨k, hk, e⟩ := List.getElem_of_mem hG
 refine bk0 ?_
 have e' : Gs[k]? = some G := by rw [List.getElem?_eq_getElem hk, e]
 rw [Dr.num_at nd e' hy]
 exact ⟨G, by rw [Int.toNat_natCast]; exact e', hy⟩
theorem src_of {N : Int -> Int} {V0 : List Mt.Tri} {kd : List (List Int)} (S : Dr.Sld N V0 kd) {k : List Int} (hk : k ∈ kd) : ∃ (a b : Int) (t : Mt.Tri), t ∈ V0 /\ Dr.rowOf N V0 k = [-t.2.2, a, b] /\ k = [N a, N b] /\ N a < N b /\ [Mt.lo a b, Mt.hi a b] = Mt.key t /\ ((a = t.1 /\ b = t.2.1) \/ (a = t.2.1 /\ b = t.1)) := by
 obtain ⟨t, ht, e⟩ := (S.min k hk).has
 unfold Dr.rowK at e
 by_cases c : N t.1 = N t.2.1
 ·rw [if_pos c] at e; exact nomatch e
 ·rw [if_neg c] at e
  by_cases d : N t.1 < N t.2.1
  ·rw [if_pos d] at e
   have e := Option.some.inj e
   injection e with e1 e2
   exact ⟨t.1, t.2.1, t, ht, e2.symm, e1.symm, d, rfl, .inl ⟨rfl, rfl⟩⟩
  ·rw [if_neg d] at e
   have e := Option.some.inj e
   injection e with e1 e2
   refine ⟨t.2.1, t.1, t, ht, e2.symm, e1.symm, by (first | lia | omega), ?_, .inr ⟨rfl, rfl⟩⟩
   rw [lo_comm, hi_comm]
   rfl
noncomputable def srcs (N : Int -> Int) (V0 : List Mt.Tri) (kd : List (List Int)) : List (Int × Int) := kd.map fun k => ((Dr.rowOf N V0 k).getD 1 0, (Dr.rowOf N V0 k).getD 2 0)
theorem srcs_eq {N : Int -> Int} {V0 : List Mt.Tri} {kd : List (List Int)} (S : Dr.Sld N V0 kd) : (kd.map fun k => (Dr.rowOf N V0 k).drop 1) = (srcs N V0 kd).map fun r => [r.1, r.2] := by
 unfold srcs
 rw [List.map_map]
 refine List.map_congr_left fun k hk => ?_
 refine gz9 fun _ bk0 => ?_
 obtain ⟨a, b, t, _, e, _⟩ := src_of S hk
 refine bk0 ?_
 show (Dr.rowOf N V0 k).drop 1 = [(Dr.rowOf N V0 k).getD 1 0, (Dr.rowOf N V0 k).getD 2 0]
 rw [e]
 rfl
theorem at_of {N : Int -> Int} {V0 : List Mt.Tri} {kd : List (List Int)} (S : Dr.Sld N V0 kd) {i : Nat} (hi : i < kd.length) : ∃ (a b : Int) (t : Mt.Tri), t ∈ V0 /\ tAt (kd.map (Dr.tieOf N V0)) i = (N a, N b, t.2.2) /\ (srcs N V0 kd).getD i (0, 0) = (a, b) /\ N a < N b /\ [Mt.lo a b, Mt.hi a b] = Mt.key t /\ ((a = t.1 /\ b = t.2.1) \/ (a = t.2.1 /\ b = t.1)) := by
 refine gz9 fun _ bk0 => ?_
 obtain ⟨a, b, t, ht, e, ek, lt, ey, o⟩ := src_of S (List.getElem_mem hi)
 refine bk0 ?_
 refine ⟨a, b, t, ht, ?_, ?_, lt, ey, o⟩
 ·unfold tAt
  rw [List.getD_eq_getElem?_getD, List.getElem?_map, List.getElem?_eq_getElem hi]
  show Dr.tieOf N V0 kd[i] = _
  unfold Dr.tieOf
  rw [e, ek]
  show (N a, N b, - -t.2.2) = _
  rw [Int.neg_neg]
 ·unfold srcs
  rw [List.getD_eq_getElem?_getD, List.getElem?_map, List.getElem?_eq_getElem hi]
  show ((Dr.rowOf N V0 kd[i]).getD 1 0, (Dr.rowOf N V0 kd[i]).getD 2 0) = _
  rw [e]
  rfl
end K29
namespace K29
open PySem L2 PyProof.Rows
theorem flatMap_perm {α β : Type} {f g : α -> List β} {l : List α} (h : ∀ x ∈ l, (f x).Perm (g x)) : (l.flatMap f).Perm (l.flatMap g) := by
 induction l with
 | nil => exact List.Perm.refl _
 | cons x l ih =>
  rw [List.flatMap_cons, List.flatMap_cons]
  exact (h x (.head _)).append (ih fun y hy => h y (.tail _ hy))
noncomputable def laid0 (R : List (Int × Int)) (is : List Nat) : List (List Int) := is.map fun i => [Mt.lo (R.getD i (0, 0)).1 (R.getD i (0, 0)).2, Mt.hi (R.getD i (0, 0)).1 (R.getD i (0, 0)).2]
structure Chd (Gs : List (List Int)) (V0 : List Mt.Tri) (kd : List (List Int)) (os os' : List Int) (is : List Nat) : Prop where
 len : os'.length = Gs.length
 inn : ∀ (i : Nat) G z, Gs[i]? = some G -> os'[i]? = some z -> z ∈ G
 rgE : ∀ e ∈ is.flatMap (endsAt (kd.map (Dr.tieOf (Dr.numOf Gs) V0))), 0 <= e /\ e < (Gs.length : Int)
 flt : (laid0 (srcs (Dr.numOf Gs) V0 kd) is).flatten.Perm ((is.flatMap (endsAt (kd.map (Dr.tieOf (Dr.numOf Gs) V0)))).map fun e => os'.getD e.toNat 0)
 key : ∀ t ∈ laid0 (srcs (Dr.numOf Gs) V0 kd) is, t ∈ V0.map Mt.key
theorem rg_of {Gs : List (List Int)} {V0 : List Mt.Tri} {kd : List (List Int)} {is : List Nat} (nd : Gs.flatten.Nodup) (S : Dr.Sld (Dr.numOf Gs) V0 kd) (cov : ∀ t ∈ V0, t.1 ∈ Gs.flatten /\ t.2.1 ∈ Gs.flatten) (ri : ∀ i ∈ is, i < kd.length) : ∀ i ∈ is, 0 <= (tAt (kd.map (Dr.tieOf (Dr.numOf Gs) V0)) i).1 /\ (tAt (kd.map (Dr.tieOf (Dr.numOf Gs) V0)) i).1 < (Gs.length : Int) /\ 0 <= (tAt (kd.map (Dr.tieOf (Dr.numOf Gs) V0)) i).2.1 /\ (tAt (kd.map (Dr.tieOf (Dr.numOf Gs) V0)) i).2.1 < (Gs.length : Int) := fun i hi => by
 refine gz9 fun _ bk0 => ?_
 obtain ⟨a, b, t, ht, e1, _, _, _, o⟩ := at_of S (ri i hi)
 refine bk0 ?_
 have ca := cov t ht
 have : a ∈ Gs.flatten /\ b ∈ Gs.flatten := by
  rcases o with ⟨rfl, rfl⟩ | ⟨rfl, rfl⟩
  ·exact ca
  ·exact ⟨ca.2, ca.1⟩
 have h1 := Dr.num_lt nd this.1
 have h2 := Dr.num_lt nd this.2
 rw [e1]
 exact ⟨h1.1, h1.2, h2.1, h2.2⟩
theorem chd_of {Gs : List (List Int)} {V0 : List Mt.Tri} {kd : List (List Int)} {os : List Int} {is : List Nat} (nd : Gs.flatten.Nodup) (S : Dr.Sld (Dr.numOf Gs) V0 kd) (cov : ∀ t ∈ V0, t.1 ∈ Gs.flatten /\ t.2.1 ∈ Gs.flatten) (lo : os.length = Gs.length) (hin : ∀ (i : Nat) G z, Gs[i]? = some G -> os[i]? = some z -> z ∈ G) (ri : ∀ i ∈ is, i < kd.length) (ndE : (is.flatMap (endsAt (kd.map (Dr.tieOf (Dr.numOf Gs) V0)))).Nodup) :
  Chd Gs V0 kd os (is.foldl (lay1 (kd.map (Dr.tieOf (Dr.numOf Gs) V0)) (srcs (Dr.numOf Gs) V0 kd)) os) is := by
 have rg := rg_of nd S cov ri
 have lin := lay_in (U := kd.map (Dr.tieOf (Dr.numOf Gs) V0)) (R := srcs (Dr.numOf Gs) V0 kd) (is := is) (os := os) (fun i hi => by rw [lo]; exact rg i hi) ndE
 have inG : ∀ i ∈ is, ∃ (a b : Int) (t : Mt.Tri), t ∈ V0 /\ tAt (kd.map (Dr.tieOf (Dr.numOf Gs) V0)) i = (Dr.numOf Gs a, Dr.numOf Gs b, t.2.2) /\ (srcs (Dr.numOf Gs) V0 kd).getD i (0, 0) = (a, b) /\ [Mt.lo a b, Mt.hi a b] = Mt.key t /\ a ∈ Gs.flatten /\ b ∈ Gs.flatten := fun i hi => by
  refine gz9 fun _ bk0 => ?_
  obtain ⟨a, b, t, ht, e1, e2, _, ek, o⟩ := at_of S (ri i hi)
  refine bk0 ?_
  have ca := cov t ht
  refine ⟨a, b, t, ht, e1, e2, ek, ?_⟩
  rcases o with ⟨rfl, rfl⟩ | ⟨rfl, rfl⟩
  ·exact ca
  ·exact ⟨ca.2, ca.1⟩
 refine ⟨by rw [lay_len]; exact lo, fun n G z eG ez => ?_, fun e he => ?_, ?_, fun t ht => ?_⟩
 ·by_cases c : (n : Int) ∈ is.flatMap (endsAt (kd.map (Dr.tieOf (Dr.numOf Gs) V0)))
  ·obtain ⟨i, hi, hn⟩ := List.mem_flatMap.mp c
   refine gz9 fun _ bk0 => ?_
   obtain ⟨a, b, t, ht, e1, e2, _, fa, fb⟩ := inG i hi
   obtain ⟨l1, l2⟩ := lin i hi
   refine bk0 ?_
   rw [e1, e2] at l1 l2
   have hn : (n : Int) ∈ [(tAt (kd.map (Dr.tieOf (Dr.numOf Gs) V0)) i).1, (tAt (kd.map (Dr.tieOf (Dr.numOf Gs) V0)) i).2.1] := hn
   rw [e1] at hn
   rcases List.mem_cons.mp hn with q | q
   ·have q : (n : Int) = Dr.numOf Gs a := q
    have l1 : (is.foldl (lay1 (kd.map (Dr.tieOf (Dr.numOf Gs) V0)) (srcs (Dr.numOf Gs) V0 kd)) os)[(Dr.numOf Gs a).toNat]? = some a := l1
    obtain ⟨G', eG', ha⟩ := num_in nd fa
    rw [show (Dr.numOf Gs a).toNat = n by rw [<- q, Int.toNat_natCast]] at l1 eG'
    rw [l1] at ez
    rw [eG] at eG'
    cases eG'
    cases (Option.some.inj ez)
    exact ha
   ·have q : (n : Int) = Dr.numOf Gs b := List.mem_singleton.mp q
    have l2 : (is.foldl (lay1 (kd.map (Dr.tieOf (Dr.numOf Gs) V0)) (srcs (Dr.numOf Gs) V0 kd)) os)[(Dr.numOf Gs b).toNat]? = some b := l2
    obtain ⟨G', eG', hb⟩ := num_in nd fb
    rw [show (Dr.numOf Gs b).toNat = n by rw [<- q, Int.toNat_natCast]] at l2 eG'
    rw [l2] at ez
    rw [eG] at eG'
    cases eG'
    cases (Option.some.inj ez)
    exact hb
  ·rw [lay_out (fun i hi => ⟨(rg i hi).1, (rg i hi).2.2.1⟩) c] at ez
   exact hin n G z eG ez
 ·obtain ⟨i, hi, hn⟩ := List.mem_flatMap.mp he
  have r := rg i hi
  have hn : e ∈ [(tAt (kd.map (Dr.tieOf (Dr.numOf Gs) V0)) i).1, (tAt (kd.map (Dr.tieOf (Dr.numOf Gs) V0)) i).2.1] := hn
  rcases List.mem_cons.mp hn with q | q
  ·rw [q]; exact ⟨r.1, r.2.1⟩
  ·rw [List.mem_singleton.mp q]; exact ⟨r.2.2.1, r.2.2.2⟩
 ·unfold laid0
  rw [<- List.flatMap_def, List.map_flatMap]
  refine flatMap_perm fun i hi => ?_
  obtain ⟨l1, l2⟩ := lin i hi
  have ev : (endsAt (kd.map (Dr.tieOf (Dr.numOf Gs) V0)) i).map (fun e => (is.foldl (lay1 (kd.map (Dr.tieOf (Dr.numOf Gs) V0)) (srcs (Dr.numOf Gs) V0 kd)) os).getD e.toNat 0) = [((srcs (Dr.numOf Gs) V0 kd).getD i (0, 0)).1, ((srcs (Dr.numOf Gs) V0 kd).getD i (0, 0)).2] := by
   have gd : ∀ (l : List Int) (j : Nat) (v : Int), l[j]? = some v -> l.getD j 0 = v := fun l j v h => by rw [List.getD_eq_getElem?_getD, h]; rfl
   show [(is.foldl (lay1 (kd.map (Dr.tieOf (Dr.numOf Gs) V0)) (srcs (Dr.numOf Gs) V0 kd)) os).getD (tAt (kd.map (Dr.tieOf (Dr.numOf Gs) V0)) i).1.toNat 0, (is.foldl (lay1 (kd.map (Dr.tieOf (Dr.numOf Gs) V0)) (srcs (Dr.numOf Gs) V0 kd)) os).getD (tAt (kd.map (Dr.tieOf (Dr.numOf Gs) V0)) i).2.1.toNat 0] = _
   rw [gd _ _ _ l1, gd _ _ _ l2]
  rw [ev]
  exact lohi_perm _ _
 ·obtain ⟨i, hi, rfl⟩ := List.mem_map.mp ht
  refine gz9 fun _ bk0 => ?_
  obtain ⟨a, b, t, ht, _, e2, ek, _⟩ := inG i hi
  refine bk0 ?_
  rw [e2]
  exact List.mem_map.mpr ⟨t, ht, ek.symm⟩
end K29
namespace K29
open PySem L2 PyProof.Rows
theorem nd_le {α : Type} [DecidableEq α] {l : List α} : ∀ {F : List α}, l.Nodup -> (∀ x ∈ l, x ∈ F) -> l.length <= F.length := by
 induction l with
 | nil => intro F _ _; exact Nat.zero_le _
 | cons x l ih =>
  intro F nd h
  rw [List.nodup_cons] at nd
  have hx := h x (.head _)
  have := ih (F := F.erase x) nd.2 fun y hy => (List.mem_erase_of_ne (show y ≠ x from fun z => nd.1 (z ▸ hy))).mpr (h y (.tail _ hy))
  rw [List.length_erase_of_mem hx] at this
  have := List.length_pos_of_mem hx
  rw [List.length_cons]
  (first | lia | omega)
theorem ends_len (U : List Mt.Tri) (is : List Nat) : (is.flatMap (endsAt U)).length = 2 * is.length := by
 induction is with
 | nil => rfl
 | cons i is ih =>
  rw [List.flatMap_cons, List.length_append, ih, List.length_cons]
  show 2 + _ = _
  (first | lia | omega)
theorem sum_perm {a b : List Int} (h : a.Perm b) : a.sum = b.sum := by
 induction h with
 | nil => rfl
 | cons x _ ih => rw [List.sum_cons, List.sum_cons, ih]
 | swap x y l => rw [List.sum_cons, List.sum_cons, List.sum_cons, List.sum_cons]; (first | lia | omega)
 | trans _ _ i1 i2 => exact i1.trans i2
section
variable {P : Program} {w : World} {K : W.Frag} {mg : Str -> Option Value} {base : Heap} {C : Addr}
structure CallsL (P : Program) (w : World) (K : W.Frag) (mg : Str -> Option Value) (base : Heap) (C : Addr) : Prop where
 web : TxtW K mg C
 ini : ∃ fI fdI, Mk K C fI /\ FnOk P w K mg base CX0 3 fI fdI ["self", "many", "ties"] (spInit C K) /\ Binds K fdI ["self", "many", "ties"] []
 cel : ∃ f fd, mg "_law_cell_at" = some (.ref f) /\ PySem.W.keepIn K (.ref f) = true /\ FnOk P w K mg base CX0 1 f fd ["_law_script", "_law_k"] (spCell K) /\ Binds K fd ["_law_script", "_law_k"] []
 ord : ∃ f fd, mg "_law_order" = some (.ref f) /\ PySem.W.keepIn K (.ref f) = true /\ FnOk P w K mg base CX0 2 f fd ["_law_script", "_law_many"] (spOrder K) /\ Binds K fd ["_law_script", "_law_many"] []
 cut : ∃ f fd, mg "_law_cut" = some (.ref f) /\ PySem.W.keepIn K (.ref f) = true /\ FnOk P w K mg base CX0 2 f fd ["_law_script", "_law_order_here"] (spCut K) /\ Binds K fd ["_law_script", "_law_order_here"] []
 mor : ∃ f fd, mg "_law_more" = some (.ref f) /\ PySem.W.keepIn K (.ref f) = true /\ FnOk P w K mg base CX0 3 f fd ["_law_ties", "_law_script", "_law_many"] (spMore K) /\ Binds K fd ["_law_ties", "_law_script", "_law_many"] []
 lw : ∃ f fd, mg "_law_weight" = some (.ref f) /\ PySem.W.keepIn K (.ref f) = true /\ FnOk P w K mg base CX0 1 f fd ["_law_cell"] spLw /\ Binds K fd ["_law_cell"] []
 lis : ∃ f fd, mg "_law_listed" = some (.ref f) /\ PySem.W.keepIn K (.ref f) = true /\ FnOk P w K mg base CX0 1 f fd ["_law_ties", "_law_way"] spListed /\ Binds K fd ["_law_ties", "_law_way"] []
 tie : ∃ f fd, mg "_law_tie" = some (.ref f) /\ PySem.W.keepIn K (.ref f) = true /\ FnOk P w K mg base CX0 1 f fd ["_law_a", "_law_b"] spTie /\ Binds K fd ["_law_a", "_law_b"] []
 drw : ∃ f fd, mg "drawn" = some (.ref f) /\ PySem.W.keepIn K (.ref f) = true /\ FnOk P w K mg base CX0 5 f fd ["web", "groups"] (spDrw C) /\ Binds K fd ["web", "groups"] []
 chs : ∃ f fd, mg "_law_chosen" = some (.ref f) /\ PySem.W.keepIn K (.ref f) = true /\ FnOk P w K mg base CX0 1 f fd ["_law_ties", "_law_start", "_law_pick"] spChosen /\ Binds K fd ["_law_ties", "_law_start", "_law_pick"] []
 aro : ∃ f fd, mg "around" = some (.ref f) /\ PySem.W.keepIn K (.ref f) = true /\ FnOk P w K mg base CX0 2 f fd ["ring", "out"] spAround /\ Binds K fd ["ring", "out"] []
 own : ∃ f fd, mg "_law_is_choice" = some (.ref f) /\ PySem.W.keepIn K (.ref f) = true /\ FnOk P w K mg base CX0 1 f fd ["_law_ties", "_law_pairs"] spLis /\ Binds K fd ["_law_ties", "_law_pairs"] []
 isc : ∃ f fd, mg "is_choice" = some (.ref f) /\ PySem.W.keepIn K (.ref f) = true /\ FnOk P w K mg base CX0 3 f fd ["web", "pairs"] (spIs C) /\ Binds K fd ["web", "pairs"] []
 lef : ∃ f fd, mg "left" = some (.ref f) /\ PySem.W.keepIn K (.ref f) = true /\ FnOk P w K mg base CX0 2 f fd ["web", "pairs"] (spLeft C) /\ Binds K fd ["web", "pairs"] []
 wor : ∃ f fd, mg "worth" = some (.ref f) /\ PySem.W.keepIn K (.ref f) = true /\ FnOk P w K mg base CX0 3 f fd ["web", "pairs"] (spWorth C) /\ Binds K fd ["web", "pairs"] []
 tis : ∃ f fd, Meth K C "ties" f /\ FnOk P w K mg base CX0 1 f fd ["self"] (spTies C) /\ Binds K fd ["self"] []
 glen : mg "len" = none
 grange : mg "range" = none
 gzip : mg "zip" = none
 gsum : mg "sum" = none
noncomputable def spLaw (K : W.Frag) : Sp := fun vs H Q _ => ∃ (a : Addr) (ns : List Int), vs = [.ref a] /\ SqL K H a (ns.map V.int) /\ ns.length <= 63 /\ ∀ H', Q (.bl true) H'
theorem ok_law {f : Addr} {fd : FuncData} (F : Fun K "law" "law" sLaw f fd) (G : CallsL P w K mg base C) : FnOk P w K mg base CX0 6 f fd ["_law_script"] (spLaw K) := by
 refine gz9 fun _ bk0 => ?_
 obtain ⟨fI, fdI, MI, GI, bI⟩ := G.ini
 obtain ⟨f1, fd1, m1, k1, G1, b1⟩ := G.cel
 obtain ⟨f2, fd2, m2, k2, G2, b2⟩ := G.ord
 obtain ⟨f3, fd3, m3, k3, G3, b3⟩ := G.cut
 obtain ⟨f4, fd4, m4, k4, G4, b4⟩ := G.mor
 obtain ⟨f5, fd5, m5, k5, G5, b5⟩ := G.lw
 obtain ⟨f6, fd6, m6, k6, G6, b6⟩ := G.lis
 obtain ⟨f7, fd7, m7, k7, G7, b7⟩ := G.tie
 obtain ⟨f8, fd8, m8, k8, G8, b8⟩ := G.drw
 obtain ⟨f9, fd9, m9, k9, G9, b9⟩ := G.chs
 obtain ⟨f10, fd10, m10, k10, G10, b10⟩ := G.aro
 obtain ⟨f11, fd11, m11, k11, G11, b11⟩ := G.own
 obtain ⟨f12, fd12, m12, k12, G12, b12⟩ := G.isc
 obtain ⟨f13, fd13, m13, k13, G13, b13⟩ := G.lef
 obtain ⟨f14, fd14, m14, k14, G14, b14⟩ := G.wor
 obtain ⟨fT, fdT, mT, GT, bT⟩ := G.tis
 refine bk0 ?_
 refine F.ok scLaw (fun vs H Q E h => ?_) (fun cdv A outer s H vs Q E hr h => ?_)
 ·obtain ⟨a, ns, rfl, _⟩ := h
  rfl
 ·obtain ⟨a, ns, rfl, hS, hns, hQ⟩ := h
  have hu := hu_of hr
  have hr1 : Room 1 (XL P w K mg base f cdv A outer s H E).A := hr.mono (by decide)
  have hr2 : Room 2 (XL P w K mg base f cdv A outer s H E).A := hr.mono (by decide)
  have hr3 : Room 3 (XL P w K mg base f cdv A outer s H E).A := hr.mono (by decide)
  have hr4 : Room 4 (XL P w K mg base f cdv A outer s H E).A := hr.mono (by decide)
  have hr5 : Room 5 (XL P w K mg base f cdv A outer s H E).A := hr
  refine' ⟨_, pss_cons ?s0 (pss_cons ?s1 (pss_cons ok_l2 (pss_cons ?s3 (pss_cons ?s4 (pss_cons (ok_l5 G.grange G.glen G7 m7 k7 b7 G5 m5 k5 b5 hr1 hu) (pss_cons ?s6 (pss_cons ?s7 (pss_cons (ok_l8 G.web.lst G8 m8 k8 b8 hr5) (pss_cons ?s9 (pss_cons (ok_l10 G.glen) (pss_cons ?s11 (pss_cons ?s12 (pss_cons ?s13 (pss_cons (ok_l14 G7 m7 k7 b7 hr1) (pss_cons (ok_l15 G.gzip G.glen G.web.lst G.gsum G10 m10 k10 b10 hr2 hu) (pss_cons ?s16 (pss_cons (ok_l17 G11 m11 k11 b11 G12 m12 k12 b12 hr3) (pss_one (ok_l18 G.glen G13 m13 k13 b13 G14 m14 k14 b14 hr3))))))))))))))))))), ?_⟩
  case s0 => exact ps_set (i := 1) scLaw.nd rfl (Or.inr rfl) (pe_op op_mod (pe_op op_mul (pe_op op_add (pe_call G1 hr1 (by rfl) m1 k1 b1 .nil pass0 (pa_cons (pv 0) (pa_cons pe_int pa_nil))) pe_int) pe_int) pe_int)
  case s1 => exact ps_set (i := 2) scLaw.nd rfl (Or.inl rfl) (pe_op op_add pe_int (pe_op op_mod (pv 1) pe_int))
  case s3 => exact ps_set (i := 3) scLaw.nd rfl (Or.inl rfl) (pe_call G3 hr2 (by rfl) m3 k3 b3 .nil pass0 (pa_cons (pv 0) (pa_cons (pe_call G2 hr2 (by rfl) m2 k2 b2 .nil pass0 (pa_cons (pv 0) (pa_cons (pv 2) pa_nil))) pa_nil)))
  case s4 => exact ps_set (i := 4) scLaw.nd rfl (Or.inr rfl) pe_dnewT
  case s6 => exact ps_expr (pe_call G4 hr3 (by rfl) m4 k4 b4 .nil pass0 (pa_cons (pv 4) (pa_cons (pv 0) (pa_cons (pv 2) pa_nil))))
  case s7 => exact ps_set (i := 7) scLaw.nd rfl (Or.inl rfl) (pe_make MI GI hr4 rfl G.web.mgC bI .nil pass0 (pa_cons (pv 2) (pa_cons (pe_call G6 hr1 (by rfl) m6 k6 b6 .nil pass0 (pa_cons (pv 4) (pa_cons (pe_op op_fdiv (pv 1) pe_int) pa_nil))) pa_nil)))
  case s9 => exact ps_set (i := 10) scLaw.nd rfl (Or.inl rfl) (pe_meth0 (pv 8) G.web.cl mT GT hr1 bT .nil pass0)
  case s11 => exact ps_set (i := 12) scLaw.nd rfl (Or.inl rfl) (pe_call G9 hr1 (by rfl) m9 k9 b9 .nil pass0 (pa_cons (pv 10) (pa_cons (pe_op op_fdiv (pv 1) pe_int) (pa_cons (pe_call G1 hr1 (by rfl) m1 k1 b1 .nil pass0 (pa_cons (pv 0) (pa_cons pe_int pa_nil))) pa_nil))))
  case s12 => exact ps_set (i := 13) scLaw.nd rfl (Or.inl rfl) (pe_lst pa_nil)
  case s13 => exact ps_set (i := 14) scLaw.nd rfl (Or.inl rfl) pe_int
  case s16 => exact ps_set (i := 13) scLaw.nd rfl (Or.inl rfl) (pe_callB call_sortedLB (by rfl) G.web.srt boot_sorted (pa_cons (pv 13) pa_nil))
  rw [show L2.start nmL [V.ref a] = some (.ref a) :: List.replicate 17 none from rfl]
  refine ⟨_, rfl, a, ns, 0, rfl, by (first | lia | omega), hS, fun n0 => ⟨_, _, rfl, rfl, _, _, rfl, rfl, .inr ⟨by decide, by decide⟩, _, _, rfl, rfl, (by show (0 : Int) < 2147483647; decide), ?_⟩⟩
  dsimp only [gName, List.set_cons_succ, List.set_cons_zero, List.replicate]
  generalize (n0 + 7) * 48271 % 2147483647 = h
  refine ⟨_, rfl, _, _, rfl, rfl, (by show (0 : Int) < 12; decide), _, _, rfl, rfl, ?_⟩
  dsimp only [gName, List.set_cons_succ, List.set_cons_zero]
  refine ⟨h, _, _, _, _, _, _, _, _, _, _, _, _, _, _, _, _, _, rfl, by (first | lia | omega), by (first | lia | omega), fun m m0 m24 => ?_⟩
  refine ⟨_, rfl, _, rfl, _, rfl, a, m, ns, rfl, hS, by (first | lia | omega), m24, fun l0 t0 H1 hl0 s1 h1 hp0 => ?_⟩
  have lt0 := hp0.length_eq
  rw [upto_len] at lt0
  refine ⟨a, l0, ns, t0, rfl, s1.seq hS, h1, by (first | lia | omega), fun g gs Gs H2 s2 hg hL fl od => ?_⟩
  dsimp only [gName, List.set_cons_succ, List.set_cons_zero]
  have pU : Gs.flatten.Perm (upto m.toNat) := by rw [fl]; exact hp0
  have lGs := len_le od
  have lF : Gs.flatten.length = m.toNat := by rw [fl]; (first | lia | omega)
  have G0 : Grp H2 g gs Gs := ⟨hg, hL, pU.nodup_iff.mpr (upto_nd _), by (first | lia | omega), by (first | lia | omega)⟩
  have inF : ∀ y : Int, y ∈ Gs.flatten ↔ 0 <= y /\ y < m := fun y => by rw [pU.mem_iff, upto_mem]; (first | lia | omega)
  intro d nd
  have s3 : Same H2 (upd H2 d (.dT [])) := Same.new nd
  have hd3 : upd H2 d (.dT []) d = some (.dT (wd [])) := upd_same
  dsimp only [gName, List.set_cons_succ, List.set_cons_zero]
  generalize upd H2 d (.dT []) = H3 at s3 hd3 ⊢
  have G3' := G0.same s3
  refine ⟨h, m, g, d, gs, Gs, _, _, _, _, _, _, _, _, _, _, _, _, _, _, _, rfl, G3'.lst, G3'.ls, hd3, G0.nd, G0.all, fun G hG x hx => (inF x).mp (List.mem_flatten.mpr ⟨G, hG, hx⟩), G0.len, m24, fun T1 e5 e6 H4 fr4 hd4 hT1 lT1 ring1 => ?_⟩
  have s24 : Same H2 H4 := fun b o e => fr4 b o (s3 b o e) (ne_of_none e nd)
  refine ⟨_, rfl, _, rfl, _, rfl, d, a, m, ns, T1, rfl, hd4, (s1.trans (s2.trans s24)).seq hS, hns, by (first | lia | omega), m24, hT1, by (first | lia | omega), fun T H5 fr5 hd5 hT sub lT => ?_⟩
  have s25 : Same H2 H5 := fun b o e => fr5 b o (s24 b o e) (ne_of_none e nd)
  refine ⟨_, rfl, _, rfl, _, rfl, _, _, rfl, rfl, ⟨by decide, by decide⟩, d, m, _, T, rfl, hd5, hT, by (first | lia | omega), fun l rs U ob H6 fr6 hd6 hl hrs er sg => ?_⟩
  have s26 : Same H2 H6 := fun b u e => fr6 b u (s25 b u e) (ne_of_none e nd)
  refine fun x dx hx hdx ndx => ?_
  have s7 : Same H6 (upd (upd H6 dx (.own x)) x (.ins C dx [])) := fun b o e => by
   rw [upd_ne (ne_of_none e hx), upd_ne (ne_of_none e hdx)]
   exact e
  have lU : U.length = T.length := by have := er.length_eq; rw [List.length_map, List.length_map] at this; exact this
  refine ⟨x, m, l, dx, rs, U, rfl, upd_same, ⟨SqL.of (s7 l _ hl), TupsH.same s7 hrs⟩, by (first | lia | omega), by (first | lia | omega), sg, fun H8 ks k8 W8 => ⟨rfl, ?_⟩⟩
  dsimp only [gName, List.set_cons_succ, List.set_cons_zero]
  have W := W8.web
  have s68 : Same H6 H8 := fun b o e => k8 b o (s7 b o e) (ne_of_none e hx)
  have G8' := G0.same (s26.trans s68)
  have hd8 := s68 d _ hd6
  clear W8 k8 s7 hx hdx ndx
  have memT := tris_mem W hT er
  have cov : ∀ t ∈ trisOf U ks, t.1 ∈ Gs.flatten /\ t.2.1 ∈ Gs.flatten := fun t ht => by
   obtain ⟨q0, q1, q2⟩ := hT.at_ t ((memT t).mp ht)
   exact ⟨(inF _).mpr ⟨q0, by (first | lia | omega)⟩, (inF _).mpr ⟨by (first | lia | omega), q2⟩⟩
  have lV : (trisOf U ks).length <= 280 := by
   unfold trisOf
   rw [List.length_map, W.pm.length_eq, List.length_map]
   (first | lia | omega)
  refine ⟨g, x, m, U, trisOf U ks, ks, gs, Gs, _, _, _, _, _, _, _, _, _, _, _, _, _, _, _, _, rfl, G8', W, tris_tis W, lV, cov, fun x' ls kd ks' ps H9 s9 W' hls hps S => ?_⟩
  refine gz9 fun _ bk0 => ?_
  obtain ⟨dx', d0, l1, n1, fs, qs0, w1, w2, w3, w4, w5, ⟨w6, w7, w8, w9⟩, w10, w11, w12, w13, lqs0⟩ := id W'.ex
  refine bk0 ?_
  have lkd : kd.length <= 300 := by
   have p := W'.pm.length_eq
   rw [tie_keys S] at p
   have q := Paired.length w12
   rw [List.length_map] at q
   (first | lia | omega)
  refine ⟨_, rfl, x', dx', fs, rfl, w1, w7, x', _, _, ks', rfl, W', fun tl qs ntl hqs => ?_⟩
  rw [tis_of S W'] at hqs
  have s10 : Same H9 (upd H9 tl (.lst (qs.map V.ref))) := Same.new ntl
  have htl10 : upd H9 tl (.lst (qs.map V.ref)) tl = some (.lst (qs.map V.ref)) := upd_same
  dsimp only [gName, List.set_cons_succ, List.set_cons_zero]
  generalize upd H9 tl (.lst (qs.map V.ref)) = H10 at s10 htl10 ⊢
  have s810 := s9.trans s10
  refine ⟨g, h, gs, Gs, _, _, _, _, _, _, _, _, _, _, _, _, _, _, _, _, rfl, G8'.same s810, od, fun o os H11 s11 no ho lo hin => ?_⟩
  have htl11 := s11 tl _ htl10
  refine ⟨_, rfl, _, rfl, _, _, rfl, rfl, ⟨by decide, by decide⟩, _, rfl, a, ns, 50, rfl, by (first | lia | omega), (s1.trans (s2.trans (s26.trans (s68.trans (s810.trans s11))))).seq hS, fun pk => ?_⟩
  refine ⟨tl, _, pk, qs, kd.map (Dr.tieOf (Dr.numOf Gs) (trisOf U ks)), rfl, htl11, TupsH.same (s10.trans s11) (by rw [List.map_map]; exact hqs), by rw [List.length_map]; exact lkd, fun u hu => ?_, fun ch is H12 nch s12 hch ri ndE => ?_⟩
  ·obtain ⟨k, hk, rfl⟩ := List.mem_map.mp hu
   refine gz9 fun _ bk0 => ?_
   obtain ⟨i, j, _, _, _, rfl, lt, _⟩ := S.two hk
   refine bk0 ?_
   show i ≠ j
   (first | lia | omega)
  rw [List.length_map] at ri
  dsimp only [gName, List.set_cons_succ, List.set_cons_zero]
  refine ⟨Nat.zero_le _, fun la nla => ?_⟩
  have s13 : Same H12 (upd H12 la (.lst [])) := Same.new nla
  have hla13 : upd H12 la (.lst []) la = some (.lst []) := upd_same
  dsimp only [gName, List.set_cons_succ, List.set_cons_zero]
  generalize upd H12 la (.lst []) = H13 at s13 hla13 ⊢
  have s1113 := s12.trans s13
  have s1013 := s11.trans s1113
  have s913 := s10.trans s1013
  have rg := rg_of G0.nd S cov ri
  have cd := chd_of (os := os) G0.nd S cov lo hin ri ndE
  have lE : 2 * is.length <= 24 := by
   have h1 : (is.flatMap (endsAt (kd.map (Dr.tieOf (Dr.numOf Gs) (trisOf U ks))))).length <= (upto Gs.length).length := nd_le ndE fun e he => upto_mem.mpr (cd.rgE e he)
   rw [upto_len] at h1
   have h2 := ends_len (kd.map (Dr.tieOf (Dr.numOf Gs) (trisOf U ks))) is
   (first | lia | omega)
  have n7 : o ≠ la := ne_of_none (s12 o _ ho) nla
  refine ⟨ls, tl, o, ch, la, 0, qs, ps, kd.map (Dr.tieOf (Dr.numOf Gs) (trisOf U ks)), srcs (Dr.numOf Gs) (trisOf U ks) kd, os, is, _, _, _, _, _, _, _, _, _, _, _, _, rfl, s1113 tl _ htl11, TupsH.same s913 (by rw [List.map_map]; exact hqs), s913 ls _ hls, TupsH.same s913 (by rw [<- srcs_eq S]; exact hps), by unfold srcs; rw [List.length_map, List.length_map], s1113 o _ ho, s13 ch _ hch, hla13, fun i hi => ⟨by rw [List.length_map]; exact ri i hi, by rw [lo]; exact rg i hi⟩, by (first | lia | omega), ⟨ne_of_none htl10 no, ne_of_none (s12 tl _ htl11) nla, ne_of_none (s10 ls _ hls) no, ne_of_none ((s10.trans (s11.trans s12)) ls _ hls) nla, (ne_of_none ho nch).symm, ne_of_none hch nla, n7⟩, fun du' las e15 H14 fr14 ho14 hla14 hlas14 edu => ?_⟩
  have s1014 : Same H10 H14 := fun b u e => fr14 b u (s1013 b u e) (ne_of_none e no) (ne_of_none ((s11.trans s12) b u e) nla)
  have hch14 := fr14 ch _ (s13 ch _ hch) (ne_of_none ho nch).symm (ne_of_none hch nla)
  have ndG : ∀ G ∈ Gs, G.Nodup := fun G hG => by
   obtain ⟨s, t, e⟩ := List.append_of_mem hG
   have := G0.nd
   rw [e, List.flatten_append, List.flatten_cons, List.nodup_append] at this
   exact (List.nodup_append.mp this.2.1).1
  have ll0 : (laid0 (srcs (Dr.numOf Gs) (trisOf U ks) kd) is).length = is.length := by unfold laid0; rw [List.length_map]
  refine ⟨g, d, o, la, du', ob, gs, las, Gs, laid0 (srcs (Dr.numOf Gs) (trisOf U ks) kd) is, _, T, _, _, _, _, _, _, _, _, _, _, _, _, _, rfl, G8'.same (s810.trans s1014), ho14, cd.len, cd.inn, od, hla14, hlas14, by (first | lia | omega), (s810.trans s1014) d _ hd8, fun G hG c j hj pr hpr => ring_keys (ndG G hG) c (fun i hi => sub _ (ring1 G hG c i hi)) hj hpr, fun la' las' M e5 e16 e17 H15 s15 hla15 hT15 rM kM => ?_⟩
  have twoM : ∀ t ∈ M, t.length = 2 := fun t ht => by obtain ⟨v, _, rfl⟩ := List.mem_map.mp (kM t ht); rfl
  have cM := rM.count cd.len G0.nd od
  rw [two_len twoM] at cM
  have l15 : (laid0 (srcs (Dr.numOf Gs) (trisOf U ks) kd) is ++ M).length = is.length + M.length := by rw [List.length_append, ll0]
  have lq15 := Paired.length hT15
  refine ⟨_, rfl, la', las', _, rfl, SqL.of hla15, by (first | lia | omega), hT15, fun rs' ts' q hS' nq => ?_⟩
  obtain ⟨hrs', pm, _⟩ := hT15.sorted hS'
  have s16 : Same H15 (upd H15 q (.lst (rs'.map V.ref))) := Same.new nq
  have hq16 : upd H15 q (.lst (rs'.map V.ref)) q = some (.lst (rs'.map V.ref)) := upd_same
  dsimp only [gName, List.set_cons_succ, List.set_cons_zero]
  generalize upd H15 q (.lst (rs'.map V.ref)) = H16 at s16 hq16 ⊢
  have s1416 := s15.trans s16
  have s816 := s810.trans (s1014.trans s1416)
  have kT : ∀ t ∈ ts', t ∈ T.map Mt.key := fun t ht => by
   rcases List.mem_append.mp (pm.mem_iff.mp ht) with h | h
   ·obtain ⟨v, hv, e⟩ := List.mem_map.mp (cd.key t h)
    exact List.mem_map.mpr ⟨v, (memT v).mp hv, e⟩
   ·exact kM t h
  have lts := pm.length_eq
  have esum : du' = ((laid0 (srcs (Dr.numOf Gs) (trisOf U ks) kd) is).map (wt T)).sum := by
   rw [edu, Int.zero_add]
   unfold laid0
   rw [List.map_map]
   congr 1
   refine List.map_congr_left fun i hi => ?_
   refine gz9 fun _ bk0 => ?_
   obtain ⟨a1, b1, t, ht, e1, e2, _, ek, _⟩ := at_of S (ri i hi)
   refine bk0 ?_
   show _ = wt T [Mt.lo ((srcs (Dr.numOf Gs) (trisOf U ks) kd).getD i (0, 0)).1 ((srcs (Dr.numOf Gs) (trisOf U ks) kd).getD i (0, 0)).2, Mt.hi ((srcs (Dr.numOf Gs) (trisOf U ks) kd).getD i (0, 0)).1 ((srcs (Dr.numOf Gs) (trisOf U ks) kd).getD i (0, 0)).2]
   rw [e1, e2, ek, wt_key hT.nd t ((memT t).mp ht)]
  have ld : Laid C H16 g d x ch q (du' + (M.map (wt T)).sum) m ob gs rs' Gs ts' ks (is.map fun (i : Nat) => (i : Int)) T U := by
   refine ⟨s816 _ _ G8'.lst, Paired.length G8'.ls, s816 _ _ hd8, W.same s816, s1416 _ _ hch14, hq16, TupsH.same s16 hrs', kT, fun t ht => (rows_keys er).mem_iff.mpr (kT t ht), ?_, by (first | lia | omega), ?_, fun v hv => ?_, ?_⟩
   ·refine (pm.flatten.trans ?_).nodup_iff.mpr (laid_nodup rM cd.len G0.nd od cd.inn ndE cd.rgE)
    rw [List.flatten_append]
    exact cd.flt.append (List.Perm.refl _)
   ·rw [List.length_map]
    (first | lia | omega)
   ·obtain ⟨t, ht, e⟩ := List.mem_map.mp (er.mem_iff.mp (List.mem_map.mpr ⟨v, hv, rfl⟩))
    have e : Mt.key t ++ [t.2.2] = Mt.key v ++ [v.2.2] := e
    have h2 := List.append_inj e rfl
    have h3 : t.2.2 = v.2.2 := by have := h2.2; injection this
    rw [<- h2.1, wt_key hT.nd t ht, h3]
   ·rw [sum_perm (pm.map (wt T)), List.map_append, List.sum_append, esum]
  refine ⟨g, d, x, ch, q, _, m, ob, gs, rs', Gs, ts', ks, _, T, U, _, _, _, _, _, _, _, _, _, _, _, _, rfl, ld, hS'.ord, fun H17 s17 => ?_⟩
  exact ⟨g, d, x, ch, q, _, m, ob, gs, rs', Gs, ts', ks, _, T, U, _, _, _, _, _, _, _, _, _, _, _, _, rfl, ld.same s17, hQ⟩
end
end K29
namespace K29
open PySem L2 PyProof.Rows
noncomputable def DefAt (K : W.Frag) (mg : Str -> Option Value) (x : Str) (st : Stmt) : Prop := ∃ f fd, mg x = some (.ref f) /\ Fun K x x st f fd
noncomputable def MetAt (K : W.Frag) (C : Addr) (x q : Str) (st : Stmt) : Prop := ∃ f fd, Meth K C x f /\ Fun K x q st f fd
theorem len0 {us : List Value} (h : us.length = 0) : us = [] := List.length_eq_zero_iff.mp h
theorem len1 {us : List Value} (h : us.length = 1) : ∃ a0, us = [a0] := by
 cases us with
 | nil => exact absurd h (by decide)
 | cons a t => exact ⟨a, by rw [len0 (Nat.succ.inj h)]⟩
theorem len2 {us : List Value} (h : us.length = 2) : ∃ a0 a1, us = [a0, a1] := by
 cases us with
 | nil => exact absurd h (Nat.succ_ne_zero _).symm
 | cons a t =>
  obtain ⟨b0, e⟩ := len1 (Nat.succ.inj h)
  exact ⟨a, b0, by rw [e]⟩
theorem len3 {us : List Value} (h : us.length = 3) : ∃ a0 a1 a2, us = [a0, a1, a2] := by
 cases us with
 | nil => exact absurd h (Nat.succ_ne_zero _).symm
 | cons a t =>
  obtain ⟨b0, b1, e⟩ := len2 (Nat.succ.inj h)
  exact ⟨a, b0, b1, by rw [e]⟩
theorem calls_mk {P : Program} {w : World} {K : W.Frag} {mg : Str -> Option Value} {base : Heap} {C : Addr} {u24 : Value} (web : TxtW K mg C) (g24 : mg "MOST_POINTS" = some u24) (r24 : RelV (.int 24) u24) (mk : PySem.W.makesIn K C = true) (kc : PySem.W.keepIn K (.ref C) = true)
  (g_min : mg "min" = none) (g_max : mg "max" = none) (g_len : mg "len" = none) (g_range : mg "range" = none) (g_enumerate : mg "enumerate" = none) (g_zip : mg "zip" = none) (g_sum : mg "sum" = none)
  (d0 : DefAt K mg "check_size" sSize) (d1 : DefAt K mg "check_ends" sEnds) (d2 : DefAt K mg "ordered" sOrd) (d3 : DefAt K mg "weights_of" sWts) (d4 : DefAt K mg "neighbours_of" sNb) (d5 : DefAt K mg "numbers_of" sNums) (d6 : DefAt K mg "heaviest_between" sBtw) (d7 : DefAt K mg "drawn" sDrw) (d8 : DefAt K mg "around" sAround) (d9 : DefAt K mg "partners_of" sPart) (d10 : DefAt K mg "is_choice" sIs) (d11 : DefAt K mg "worth" sWorth) (d12 : DefAt K mg "left" sLeft) (d13 : DefAt K mg "_law_cell_at" sCell) (d14 : DefAt K mg "_law_tie" sTie) (d15 : DefAt K mg "_law_order" sOrder) (d16 : DefAt K mg "_law_drawn" sDrawn) (d17 : DefAt K mg "_law_weight" sLw) (d18 : DefAt K mg "_law_ends" sLends) (d19 : DefAt K mg "_law_more" sMore) (d20 : DefAt K mg "_law_listed" sListed) (d21 : DefAt K mg "_law_cut" sCut) (d22 : DefAt K mg "_law_chosen" sChosen) (d23 : DefAt K mg "_law_is_choice" sLis)
  (mI : MetAt K C "__init__" "Web.__init__" sInit) (mS : MetAt K C "size" "Web.size" sMSize) (mT : MetAt K C "ties" "Web.ties" sTies) (mG : MetAt K C "weight" "Web.weight" sWeight) : CallsL P w K mg base C := by
 refine gz9 fun _ bk0 => ?_
 obtain ⟨f0, fd0, m0, F0⟩ := d0
 obtain ⟨f1, fd1, m1, F1⟩ := d1
 obtain ⟨f2, fd2, m2, F2⟩ := d2
 obtain ⟨f3, fd3, m3, F3⟩ := d3
 obtain ⟨f4, fd4, m4, F4⟩ := d4
 obtain ⟨f5, fd5, m5, F5⟩ := d5
 obtain ⟨f6, fd6, m6, F6⟩ := d6
 obtain ⟨f7, fd7, m7, F7⟩ := d7
 obtain ⟨f8, fd8, m8, F8⟩ := d8
 obtain ⟨f9, fd9, m9, F9⟩ := d9
 obtain ⟨f10, fd10, m10, F10⟩ := d10
 obtain ⟨f11, fd11, m11, F11⟩ := d11
 obtain ⟨f12, fd12, m12, F12⟩ := d12
 obtain ⟨f13, fd13, m13, F13⟩ := d13
 obtain ⟨f14, fd14, m14, F14⟩ := d14
 obtain ⟨f15, fd15, m15, F15⟩ := d15
 obtain ⟨f16, fd16, m16, F16⟩ := d16
 obtain ⟨f17, fd17, m17, F17⟩ := d17
 obtain ⟨f18, fd18, m18, F18⟩ := d18
 obtain ⟨f19, fd19, m19, F19⟩ := d19
 obtain ⟨f20, fd20, m20, F20⟩ := d20
 obtain ⟨f21, fd21, m21, F21⟩ := d21
 obtain ⟨f22, fd22, m22, F22⟩ := d22
 obtain ⟨f23, fd23, m23, F23⟩ := d23
 obtain ⟨fI, fdI, MI, FI⟩ := mI
 obtain ⟨fS, fdS, MS, FS⟩ := mS
 obtain ⟨fT, fdT, MT, FT⟩ := mT
 obtain ⟨fG, fdG, MG, FG⟩ := mG
 refine bk0 ?_
 have b0 := F0.binds (ps := ["many"]) fun _ _ _ _ _ _ us hl => by obtain ⟨a0, rfl⟩ := len1 hl; rfl
 have b1 := F1.binds (ps := ["many", "a", "b"]) fun _ _ _ _ _ _ us hl => by obtain ⟨a0, a1, a2, rfl⟩ := len3 hl; rfl
 have b2 := F2.binds (ps := ["a", "b"]) fun _ _ _ _ _ _ us hl => by obtain ⟨a0, a1, rfl⟩ := len2 hl; rfl
 have b3 := F3.binds (ps := ["many", "ties"]) fun _ _ _ _ _ _ us hl => by obtain ⟨a0, a1, rfl⟩ := len2 hl; rfl
 have b4 := F4.binds (ps := ["many", "ends_sorted"]) fun _ _ _ _ _ _ us hl => by obtain ⟨a0, a1, rfl⟩ := len2 hl; rfl
 have b5 := F5.binds (ps := ["groups"]) fun _ _ _ _ _ _ us hl => by obtain ⟨a0, rfl⟩ := len1 hl; rfl
 have b6 := F6.binds (ps := ["web", "numbers"]) fun _ _ _ _ _ _ us hl => by obtain ⟨a0, a1, rfl⟩ := len2 hl; rfl
 have b7 := F7.binds (ps := ["web", "groups"]) fun _ _ _ _ _ _ us hl => by obtain ⟨a0, a1, rfl⟩ := len2 hl; rfl
 have b8 := F8.binds (ps := ["ring", "out"]) fun _ _ _ _ _ _ us hl => by obtain ⟨a0, a1, rfl⟩ := len2 hl; rfl
 have b9 := F9.binds (ps := ["pairs"]) fun _ _ _ _ _ _ us hl => by obtain ⟨a0, rfl⟩ := len1 hl; rfl
 have b10 := F10.binds (ps := ["web", "pairs"]) fun _ _ _ _ _ _ us hl => by obtain ⟨a0, a1, rfl⟩ := len2 hl; rfl
 have b11 := F11.binds (ps := ["web", "pairs"]) fun _ _ _ _ _ _ us hl => by obtain ⟨a0, a1, rfl⟩ := len2 hl; rfl
 have b12 := F12.binds (ps := ["web", "pairs"]) fun _ _ _ _ _ _ us hl => by obtain ⟨a0, a1, rfl⟩ := len2 hl; rfl
 have b13 := F13.binds (ps := ["_law_script", "_law_k"]) fun _ _ _ _ _ _ us hl => by obtain ⟨a0, a1, rfl⟩ := len2 hl; rfl
 have b14 := F14.binds (ps := ["_law_a", "_law_b"]) fun _ _ _ _ _ _ us hl => by obtain ⟨a0, a1, rfl⟩ := len2 hl; rfl
 have b15 := F15.binds (ps := ["_law_script", "_law_many"]) fun _ _ _ _ _ _ us hl => by obtain ⟨a0, a1, rfl⟩ := len2 hl; rfl
 have b16 := F16.binds (ps := ["_law_cell", "_law_factor", "_law_many"]) fun _ _ _ _ _ _ us hl => by obtain ⟨a0, a1, a2, rfl⟩ := len3 hl; rfl
 have b17 := F17.binds (ps := ["_law_cell"]) fun _ _ _ _ _ _ us hl => by obtain ⟨a0, rfl⟩ := len1 hl; rfl
 have b18 := F18.binds (ps := ["_law_cell", "_law_many"]) fun _ _ _ _ _ _ us hl => by obtain ⟨a0, a1, rfl⟩ := len2 hl; rfl
 have b19 := F19.binds (ps := ["_law_ties", "_law_script", "_law_many"]) fun _ _ _ _ _ _ us hl => by obtain ⟨a0, a1, a2, rfl⟩ := len3 hl; rfl
 have b20 := F20.binds (ps := ["_law_ties", "_law_way"]) fun _ _ _ _ _ _ us hl => by obtain ⟨a0, a1, rfl⟩ := len2 hl; rfl
 have b21 := F21.binds (ps := ["_law_script", "_law_order_here"]) fun _ _ _ _ _ _ us hl => by obtain ⟨a0, a1, rfl⟩ := len2 hl; rfl
 have b22 := F22.binds (ps := ["_law_ties", "_law_start", "_law_pick"]) fun _ _ _ _ _ _ us hl => by obtain ⟨a0, a1, a2, rfl⟩ := len3 hl; rfl
 have b23 := F23.binds (ps := ["_law_ties", "_law_pairs"]) fun _ _ _ _ _ _ us hl => by obtain ⟨a0, a1, rfl⟩ := len2 hl; rfl
 have bI := FI.binds (ps := ["self", "many", "ties"]) fun _ _ _ _ _ _ us hl => by obtain ⟨a0, a1, a2, rfl⟩ := len3 hl; rfl
 have bS := FS.binds (ps := ["self"]) fun _ _ _ _ _ _ us hl => by obtain ⟨a0, rfl⟩ := len1 hl; rfl
 have bT := FT.binds (ps := ["self"]) fun _ _ _ _ _ _ us hl => by obtain ⟨a0, rfl⟩ := len1 hl; rfl
 have bG := FG.binds (ps := ["self", "a", "b"]) fun _ _ _ _ _ _ us hl => by obtain ⟨a0, a1, a2, rfl⟩ := len3 hl; rfl
 have G0 := ok_size (P := P) (w := w) (mg := mg) (base := base) F0 g24 r24
 have G1 := ok_ends (P := P) (w := w) (mg := mg) (base := base) F1
 have G2 := ok_ord (P := P) (w := w) (mg := mg) (base := base) F2 g_min g_max
 have G3 := ok_wts (P := P) (w := w) (mg := mg) (base := base) F3 G1 m1 F1.kp b1 G2 m2 F2.kp b2
 have G4 := ok_nb (P := P) (w := w) (mg := mg) (base := base) F4 g_range
 have GI := ok_init (P := P) (w := w) (mg := mg) (base := base) FI web G0 m0 F0.kp b0 G3 m3 F3.kp b3 G4 m4 F4.kp b4
 have GS := ok_msize (P := P) (w := w) (mg := mg) (base := base) FS web
 have GT := ok_ties (P := P) (w := w) (mg := mg) (base := base) FT web
 have GG := ok_weight (P := P) (w := w) (mg := mg) (base := base) FG web G2 m2 F2.kp b2
 have G5 := ok_nums (P := P) (w := w) (mg := mg) (base := base) F5 g_enumerate
 have G6 := ok_btw (P := P) (w := w) (mg := mg) (base := base) F6 web g_min MT GT bT G2 m2 F2.kp b2
 have G7 := ok_drw (P := P) (w := w) (mg := mg) (base := base) F7 web g_len ⟨mk, MI.at_, MI.fn, kc⟩ GI bI G5 m5 F5.kp b5 G6 m6 F6.kp b6
 have G8 := ok_around (P := P) (w := w) (mg := mg) (base := base) F8 g_len g_range web.srt G2 m2 F2.kp b2
 have G9 := ok_part (P := P) (w := w) (mg := mg) (base := base) F9
 have G10 := ok_is (P := P) (w := w) (mg := mg) (base := base) F10 web MG GG bG
 have G11 := ok_worth (P := P) (w := w) (mg := mg) (base := base) F11 web g_sum MG GG bG
 have G12 := ok_left (P := P) (w := w) (mg := mg) (base := base) F12 web g_range G9 m9 F9.kp b9 MS GS bS
 have G13 := ok_cell (P := P) (w := w) (mg := mg) (base := base) F13 g_len
 have G14 := ok_tie (P := P) (w := w) (mg := mg) (base := base) F14 g_min g_max
 have G15 := ok_order (P := P) (w := w) (mg := mg) (base := base) F15 g_range G13 m13 F13.kp b13
 have G16 := ok_drawn (P := P) (w := w) (mg := mg) (base := base) F16
 have G17 := ok_lw (P := P) (w := w) (mg := mg) (base := base) F17
 have G18 := ok_lends (P := P) (w := w) (mg := mg) (base := base) F18 G16 m16 F16.kp b16
 have G19 := ok_more (P := P) (w := w) (mg := mg) (base := base) F19 G14 m14 F14.kp b14 G18 m18 F18.kp b18 G17 m17 F17.kp b17
 have G20 := ok_listed (P := P) (w := w) (mg := mg) (base := base) F20
 have G21 := ok_cut (P := P) (w := w) (mg := mg) (base := base) F21 g_len G13 m13 F13.kp b13 G16 m16 F16.kp b16
 have G22 := ok_chosen (P := P) (w := w) (mg := mg) (base := base) F22 g_len g_range
 have G23 := ok_lis (P := P) (w := w) (mg := mg) (base := base) F23
 exact ⟨web, ⟨fI, fdI, ⟨mk, MI.at_, MI.fn, kc⟩, GI, bI⟩, ⟨f13, fd13, m13, F13.kp, G13, b13⟩, ⟨f15, fd15, m15, F15.kp, G15, b15⟩, ⟨f21, fd21, m21, F21.kp, G21, b21⟩, ⟨f19, fd19, m19, F19.kp, G19, b19⟩, ⟨f17, fd17, m17, F17.kp, G17, b17⟩, ⟨f20, fd20, m20, F20.kp, G20, b20⟩, ⟨f14, fd14, m14, F14.kp, G14, b14⟩, ⟨f7, fd7, m7, F7.kp, G7, b7⟩, ⟨f22, fd22, m22, F22.kp, G22, b22⟩, ⟨f8, fd8, m8, F8.kp, G8, b8⟩, ⟨f23, fd23, m23, F23.kp, G23, b23⟩, ⟨f10, fd10, m10, F10.kp, G10, b10⟩, ⟨f12, fd12, m12, F12.kp, G12, b12⟩, ⟨f11, fd11, m11, F11.kp, G11, b11⟩, ⟨fT, fdT, MT, GT, bT⟩, g_len, g_range, g_zip, g_sum⟩
theorem law_mk {P : Program} {w : World} {K : W.Frag} {mg : Str -> Option Value} {C fa : Addr} (hmg : mg "law" = some (.ref fa)) (d : DefAt K mg "law" sLaw) (G : ∀ base : Heap, CallsL P w K mg base C) :
  ∃ fd : FuncData, (∀ (s : Shared) (u : Value), BindsTo s fd ⟨[u], []⟩ [("_law_script", u)]) /\ ∀ base : Heap, K.In base -> base.Ns mainGlobals mg -> FnOk P w K mg base CX0 6 fa fd ["_law_script"] (spLaw K) := by
 refine gz9 fun _ bk0 => ?_
 obtain ⟨f, fd, m, F⟩ := d
 refine bk0 ?_
 cases hmg.symm.trans m
 refine gz9 fun _ bk0 => ?_
 obtain ⟨oc, od, kV, doc, pm, an, cdv, ct, osl, rfl, l, c⟩ := F.ex
 refine bk0 ?_
 exact ⟨_, fun s u => .of_eq rfl, fun base _ _ => ok_law F (G base)⟩
theorem all_mk {P : Program} {w : World} {K : W.Frag} {mg : Str -> Option Value} {h : Heap} {fa C : Addr} {t24 : Tok} (X : K.In h) (G : h.Ns mainGlobals mg) (hmg : mg "law" = some (.ref fa))
  (aC : PySem.W.nsIn K mainGlobals "Web" = some (some (.ref C))) (a24 : PySem.W.nsIn K mainGlobals "MOST_POINTS" = some (some (.int 24 t24))) (z0 : PySem.W.nsIn K mainGlobals "min" = some none) (z1 : PySem.W.nsIn K mainGlobals "max" = some none) (z2 : PySem.W.nsIn K mainGlobals "len" = some none) (z3 : PySem.W.nsIn K mainGlobals "range" = some none) (z4 : PySem.W.nsIn K mainGlobals "enumerate" = some none) (z5 : PySem.W.nsIn K mainGlobals "zip" = some none) (z6 : PySem.W.nsIn K mainGlobals "sum" = some none) (zs : PySem.W.nsIn K mainGlobals "sorted" = some none) (zl : PySem.W.nsIn K mainGlobals "list" = some none) (cls : Cls K C) (mk : PySem.W.makesIn K C = true) (kc : PySem.W.keepIn K (.ref C) = true) (n1 : PySem.W.findIn K (.ref C) "many" = some none) (n2 : PySem.W.findIn K (.ref C) "weights" = some none) (n3 : PySem.W.findIn K (.ref C) "ties_sorted" = some none) (n4 : PySem.W.findIn K (.ref C) "neighbours" = some none)
  (d0 : DefAt K mg "check_size" sSize) (d1 : DefAt K mg "check_ends" sEnds) (d2 : DefAt K mg "ordered" sOrd) (d3 : DefAt K mg "weights_of" sWts) (d4 : DefAt K mg "neighbours_of" sNb) (d5 : DefAt K mg "numbers_of" sNums) (d6 : DefAt K mg "heaviest_between" sBtw) (d7 : DefAt K mg "drawn" sDrw) (d8 : DefAt K mg "around" sAround) (d9 : DefAt K mg "partners_of" sPart) (d10 : DefAt K mg "is_choice" sIs) (d11 : DefAt K mg "worth" sWorth) (d12 : DefAt K mg "left" sLeft) (d13 : DefAt K mg "_law_cell_at" sCell) (d14 : DefAt K mg "_law_tie" sTie) (d15 : DefAt K mg "_law_order" sOrder) (d16 : DefAt K mg "_law_drawn" sDrawn) (d17 : DefAt K mg "_law_weight" sLw) (d18 : DefAt K mg "_law_ends" sLends) (d19 : DefAt K mg "_law_more" sMore) (d20 : DefAt K mg "_law_listed" sListed) (d21 : DefAt K mg "_law_cut" sCut) (d22 : DefAt K mg "_law_chosen" sChosen) (d23 : DefAt K mg "_law_is_choice" sLis)
  (mI : MetAt K C "__init__" "Web.__init__" sInit) (mS : MetAt K C "size" "Web.size" sMSize) (mT : MetAt K C "ties" "Web.ties" sTies) (mG : MetAt K C "weight" "Web.weight" sWeight) (dL : DefAt K mg "law" sLaw) :
  ∃ fd : FuncData, (∀ (s : Shared) (u : Value), BindsTo s fd ⟨[u], []⟩ [("_law_script", u)]) /\ ∀ base : Heap, K.In base -> base.Ns mainGlobals mg -> FnOk P w K mg base CX0 6 fa fd ["_law_script"] (spLaw K) := by
 have z := fun {x : Str} (e : PySem.W.nsIn K mainGlobals x = some none) => PySem.W.mg_none_of X G e
 have q := fun {x : Str} {v : Value} (e : PySem.W.nsIn K mainGlobals x = some (some v)) => PySem.W.mg_of X G e
 refine law_mk (C := C) hmg dL fun base => ?_
 exact calls_mk ⟨cls, n1, n2, n3, n4, q aC, z zs, z zl⟩ (q a24) ⟨_, rfl⟩ mk kc (z z0) (z z1) (z z2) (z z3) (z z4) (z z5) (z z6)  d0 d1 d2 d3 d4 d5 d6 d7 d8 d9 d10 d11 d12 d13 d14 d15 d16 d17 d18 d19 d20 d21 d22 d23 mI mS mT mG
theorem walk {l : PySem.W.OpenLaw} {q : Program} {loose : List Str} {XP : (Str -> Option Value) -> Heap -> Prop} {YP : World -> Heap -> Prop} {d : DefRec} {K : Params -> PySem.W.Frag} (hn : l.most = some 63) (hdf : d.params.defaults = [])
  (hY : ∀ (w : World) (h : Heap), YP w h -> (K w.params).In h)
  (F : ∀ (w : World) (mg : Str -> Option Value) (fa : Addr) (h : Heap), (K w.params).In h -> h.Ns mainGlobals mg -> mg d.name = some (.ref fa) →
   ∃ fd : FuncData, (∀ (s : Shared) (u : Value), BindsTo s fd ⟨[u], []⟩ [("_law_script", u)]) /\ ∀ base : Heap, (K w.params).In base -> base.Ns mainGlobals mg -> FnOk l.prog w (K w.params) mg base CX0 6 fa fd ["_law_script"] (spLaw (K w.params))) :
  PySem.W.WalkO q loose XP YP l.row.toRowW d [] (fun f vs => PySem.call f vs) :=
 L2.walk_of (n := 63) (k := 6) (x := "_law_script") (CX := fun _ => CX0) (sp := fun w => spLaw (K w.params)) hn (by decide) hdf ⟨rfl, by decide, by decide⟩ hY F (fun _ _ a ns hl _ hS => ⟨a, ns, rfl, hS, hl, fun _ => rfl⟩) fun _ _ _ _ _ z => z
end K29
namespace L2
open PySem PySem.W PySem.W.X PyProof.Rows
noncomputable def fr1 (o : Obj) (n : Nat) : Option (Nat × Obj) := match o with
 | ⟨_, _, .freed, _⟩ => none
 | o => some (n, o)
noncomputable def fragH (h : Heap) : PySem.W.Frag := h.objs.toList.zipIdx.filterMap fun p => fr1 p.1 p.2
theorem fr1_or (o : Obj) (n : Nat) : (fr1 o n = none) \/ (fr1 o n = some (n, o) /\ ∀ h : Heap, h.objs[n]? = some o -> h.get? n = some o) := by
 refine gz9 fun _ bk0 => ?_
 obtain ⟨c, d, dt, sl⟩ := o
 refine bk0 ?_
 cases dt <;> first
  | exact .inl rfl
  | (refine .inr ⟨rfl, fun h e => ?_⟩; unfold Heap.get?; rw [e])
theorem lookupZ {h : Heap} {a : Nat} {o : Obj} : ∀ (l : List Obj) (k : Nat), (∀ i x, l[i]? = some x -> h.objs[k + i]? = some x) -> ((l.zipIdx k).filterMap fun p => fr1 p.1 p.2).lookup a = some o -> h.get? a = some o
 | [], _, _, e => nomatch e
 | x :: l, k, q, e => by
  have ih := lookupZ (h := h) (a := a) (o := o) l (k + 1) fun i y hy => by
   rw [Nat.add_right_comm, Nat.add_assoc]
   exact q (i + 1) y hy
  rw [List.zipIdx_cons, List.filterMap_cons] at e
  rcases fr1_or x k with h1 | ⟨h1, h2⟩
  ·rw [h1] at e
   exact ih e
  ·rw [h1, List.lookup_cons] at e
   by_cases r : a = k
   ·subst r
    rw [beq_self_eq_true] at e
    cases e
    exact h2 h (q 0 _ rfl)
   ·rw [beq_eq_false_iff_ne.mpr r] at e
    exact ih e
theorem fragH_in (h : Heap) : (fragH h).In h := fun a o e => lookupZ h.objs.toList 0 (fun i x hx => by rw [Nat.zero_add, <- Array.getElem?_toList]; exact hx) e
noncomputable abbrev SeeD := Str × Str × Arguments × FuncBody × Scope × Addr × List (Str × Addr) × Value × Addr × Bool × Bool
noncomputable def funSee (K : W.Frag) (x : Str) (f : Addr) : Option SeeD := match K.lookup f with
 | some ⟨_, _, .func fd, _⟩ => some (fd.name, fd.qualname, fd.params, fd.body, fd.scope, fd.globals, fd.closure, fd.defaults, fd.builtins, codeIn K fd.code x, keepIn K (.ref f))
 | _ => none
noncomputable def funGood (x q : Str) (st : Stmt) : Option SeeD := some (x, q, defArgs st, .stmts (defBody st), defScope st, mainGlobals, [], .none, builtinsNs, true, true)
noncomputable def defSee (K : W.Frag) (x : Str) : Option SeeD := match nsIn K mainGlobals x with
 | some (some (.ref f)) => funSee K x f
 | _ => none
noncomputable def metSee (K : W.Frag) (C : Addr) (x q : Str) : Option (Bool × Option SeeD) := match findIn K (.ref C) x with
 | some (some (.ref f)) => some (isFn K (.ref f), funSee K q f)
 | _ => none
theorem fun_see {K : W.Frag} {x q : Str} {st : Stmt} {f : Addr} (e : funSee K q f = funGood x q st) : ∃ (oc : Value) (od an : Option Addr) (osl : Array (Option Value)) (kV doc pm cdv ct : Value), K.lookup f = some ⟨oc, od, .func (fnOf x q (defArgs st) (defBody st) (defScope st) .none kV doc pm an cdv ct), osl⟩ /\ codeIn K cdv q = true /\ keepIn K (.ref f) = true := by
 unfold funSee funGood at e
 split at e
 ·next oc od fd osl el =>
  refine gz9 fun _ bk0 => ?_
  obtain ⟨n, qn, ps, b, sc, gl, cl, df, kd, dc, pm, an, cd, ct, bi⟩ := fd
  refine bk0 ?_
  simp only [Option.some.injEq, Prod.mk.injEq] at e
  refine gz9 fun _ bk0 => ?_
  obtain ⟨rfl, rfl, rfl, rfl, rfl, rfl, rfl, rfl, rfl, c, k⟩ := e
  refine bk0 ?_
  exact ⟨oc, od, an, osl, kd, dc, pm, cd, ct, el, c, k⟩
 ·cases e
theorem def_see {K : W.Frag} {x : Str} {st : Stmt} (e : defSee K x = funGood x x st) : ∃ (f : Addr) (oc : Value) (od an : Option Addr) (osl : Array (Option Value)) (kV doc pm cdv ct : Value), nsIn K mainGlobals x = some (some (.ref f)) /\ K.lookup f = some ⟨oc, od, .func (fnOf x x (defArgs st) (defBody st) (defScope st) .none kV doc pm an cdv ct), osl⟩ /\ codeIn K cdv x = true /\ keepIn K (.ref f) = true := by
 unfold defSee at e
 split at e
 ·next f en => exact ⟨f, by obtain ⟨oc, od, an, osl, kV, doc, pm, cdv, ct, h⟩ := fun_see e; exact ⟨oc, od, an, osl, kV, doc, pm, cdv, ct, en, h⟩⟩
 ·cases e
theorem met_see {K : W.Frag} {C : Addr} {x q : Str} {st : Stmt} (e : metSee K C x q = some (true, funGood x q st)) : ∃ (f : Addr) (oc : Value) (od an : Option Addr) (osl : Array (Option Value)) (kV doc pm cdv ct : Value), findIn K (.ref C) x = some (some (.ref f)) /\ isFn K (.ref f) = true /\ K.lookup f = some ⟨oc, od, .func (fnOf x q (defArgs st) (defBody st) (defScope st) .none kV doc pm an cdv ct), osl⟩ /\ codeIn K cdv q = true /\ keepIn K (.ref f) = true := by
 unfold metSee at e
 split at e
 ·next f en =>
  simp only [Option.some.injEq, Prod.mk.injEq] at e
  refine gz9 fun _ bk0 => ?_
  obtain ⟨oc, od, an, osl, kV, doc, pm, cdv, ct, h⟩ := fun_see e.2
  refine bk0 ?_
  exact ⟨f, oc, od, an, osl, kV, doc, pm, cdv, ct, en, e.1, h⟩
 ·cases e
noncomputable abbrev SeeC := Bool × Bool × Bool × Option (Option Value) × Bool × Bool × List (Option (Option Value)) × List (Option (Bool × Option SeeD))
noncomputable def clsSee (K : W.Frag) (c : Str) (no : List Str) (ms : List (Str × Str × Stmt)) : Option SeeC := match nsIn K mainGlobals c with
 | some (some (.ref C)) => some (plainGet K C Str.empty, hasDictIn K C, plainOver K C, findIn K (.ref C) "__setattr__", makesIn K C, keepIn K (.ref C), no.map (findIn K (.ref C)), ms.map fun m => metSee K C m.1 m.2.1)
 | _ => none
noncomputable def clsGood (no : List Str) (ms : List (Str × Str × Stmt)) : Option SeeC := some (true, true, true, some (some (.builtin "object.__setattr__")), true, true, no.map fun _ => some none, ms.map fun m => some (true, funGood m.1 m.2.1 m.2.2))
theorem cls_see {K : W.Frag} {c : Str} {no : List Str} {ms : List (Str × Str × Stmt)} (e : clsSee K c no ms = clsGood no ms) : ∃ C, nsIn K mainGlobals c = some (some (.ref C)) /\ (plainGet K C Str.empty = true /\ hasDictIn K C = true /\ plainOver K C = true /\ findIn K (.ref C) "__setattr__" = some (some (.builtin "object.__setattr__"))) /\ makesIn K C = true /\ keepIn K (.ref C) = true /\ (∀ x ∈ no, findIn K (.ref C) x = some none) /\ ∀ m ∈ ms, metSee K C m.1 m.2.1 = some (true, funGood m.1 m.2.1 m.2.2) := by
 unfold clsSee clsGood at e
 split at e
 ·next C en =>
  simp only [Option.some.injEq, Prod.mk.injEq] at e
  refine gz9 fun _ bk0 => ?_
  obtain ⟨h1, h2, h3, h4, h5, h6, h7, h8⟩ := e
  refine bk0 ?_
  exact ⟨C, en, ⟨h1, h2, h3, h4⟩, h5, h6, List.map_inj_left.mp h7, List.map_inj_left.mp h8⟩
 ·cases e
noncomputable def numSee (K : W.Frag) (x : Str) : Option Int := match nsIn K mainGlobals x with
 | some (some (.int n _)) => some n
 | _ => none
theorem num_see {K : W.Frag} {x : Str} {n : Int} (e : numSee K x = some n) : ∃ t, nsIn K mainGlobals x = some (some (.int n t)) := by
 unfold numSee at e
 split at e
 ·next m t en =>
  cases e
  exact ⟨t, en⟩
 ·cases e
noncomputable abbrev See := List (Option (Option Value)) × List (Option Int) × List (Option SeeD) × Option SeeC
noncomputable def seeOf (zs : List Str) (ks : List (Str × Int)) (ds : List (Str × Stmt)) (c : Str) (no : List Str) (ms : List (Str × Str × Stmt)) (K : W.Frag) : See := (zs.map (nsIn K mainGlobals), ks.map (fun k => numSee K k.1), ds.map (fun d => defSee K d.1), clsSee K c no ms)
noncomputable def seeGood (zs : List Str) (ks : List (Str × Int)) (ds : List (Str × Stmt)) (no : List Str) (ms : List (Str × Str × Stmt)) : See := (zs.map fun _ => some none, ks.map fun k => some k.2, ds.map fun d => funGood d.1 d.1 d.2, clsGood no ms)
theorem see_of {zs : List Str} {ks : List (Str × Int)} {ds : List (Str × Stmt)} {c : Str} {no : List Str} {ms : List (Str × Str × Stmt)} {K : W.Frag} (e : seeOf zs ks ds c no ms K = seeGood zs ks ds no ms) : (∀ x ∈ zs, nsIn K mainGlobals x = some none) /\ (∀ k ∈ ks, numSee K k.1 = some k.2) /\ (∀ d ∈ ds, defSee K d.1 = funGood d.1 d.1 d.2) /\ clsSee K c no ms = clsGood no ms := by
 unfold seeOf seeGood at e
 simp only [Prod.mk.injEq] at e
 exact ⟨List.map_inj_left.mp e.1, List.map_inj_left.mp e.2.1, List.map_inj_left.mp e.2.2.1, e.2.2.2⟩
theorem walkS {q : Program} {loose : List Str} {XP : (Str -> Option Value) -> Heap -> Prop} {α : Type} {Yf : Shared -> α} {Ya : World -> α} {r : RowW} {d : DefRec} {kwd : List (Str × PySem.Expr)} {run : Value -> List Value -> Sem Value}
  (h : ∀ (w : World) (s₀ : Shared), Yf s₀ = Ya w -> WalkO q loose XP (fun _ h => (fragH s₀.heap).In h) r d kwd run) : WalkX q loose XP Yf Ya r d kwd run := by
 intro w s₀ s₁ mg mb G y a o pm cd doc dV kV ho hd hcd hD hmg hg args vals as' L hpre hlay hrd hwl hlo
 exact h w s₀ y w s₀ s₁ mg mb G (fun a o e => L.keeps _ _ (fragH_in s₀.heap a o e)) a o pm cd doc dV kV ho hd hcd hD hmg hg args vals as' hpre hlay hrd hwl hlo
end L2
namespace K29
open PySem L2 PyProof.Rows
noncomputable def posH : Stmt -> Pos
 | .FunctionDef _ _ _ _ _ _ _ _ _ p => p
 | _ => ⟨0, 0, 0, 0⟩
theorem see_def {K : W.Frag} {mg : Str -> Option Value} {h : Heap} {x : Str} {st : Stmt} (X : K.In h) (G : h.Ns mainGlobals mg) (e : defSee K x = funGood x x st) : DefAt K mg x st := by
 refine gz9 fun _ bk0 => ?_
 obtain ⟨f, oc, od, an, osl, kV, doc, pm, cdv, ct, a, l, c, k⟩ := def_see e
 refine bk0 ?_
 exact ⟨f, _, PySem.W.mg_of X G a, fun_mk l c k⟩
theorem see_met {K : W.Frag} {C : Addr} {x q : Str} {st : Stmt} (e : metSee K C x q = some (true, funGood x q st)) : MetAt K C x q st := by
 refine gz9 fun _ bk0 => ?_
 obtain ⟨f, oc, od, an, osl, kV, doc, pm, cdv, ct, a, i, l, c, k⟩ := met_see e
 refine bk0 ?_
 exact ⟨f, _, ⟨a, i, k⟩, fun_mk l c k⟩
end K29
namespace K29
open PySem L2 PyProof.Rows
noncomputable def Qv : Program := { PySem.Challenge.pw_pairsheath_k29_whole_choices_laid_open with main := { (PySem.Challenge.pw_pairsheath_k29_whole_choices_laid_open).main with body := [1,2,3,4,6,7,8,9,10,11,12,14,15,16,17,19,20,21,22,24,25,26,27,28,29,30,31,32,33,34,35].map top } }
noncomputable def zsH : List Str := ["min", "max", "len", "range", "enumerate", "zip", "sum", "sorted", "list"]
noncomputable def ksH : List (Str × Int) := [("MOST_POINTS", 24)]
noncomputable def dsH : List (Str × Stmt) := [("check_size", sSize), ("check_ends", sEnds), ("ordered", sOrd), ("weights_of", sWts), ("neighbours_of", sNb), ("numbers_of", sNums), ("heaviest_between", sBtw), ("drawn", sDrw), ("around", sAround), ("partners_of", sPart), ("is_choice", sIs), ("worth", sWorth), ("left", sLeft), ("_law_cell_at", sCell), ("_law_tie", sTie), ("_law_order", sOrder), ("_law_drawn", sDrawn), ("_law_weight", sLw), ("_law_ends", sLends), ("_law_more", sMore), ("_law_listed", sListed), ("_law_cut", sCut), ("_law_chosen", sChosen), ("_law_is_choice", sLis), ("law", sLaw)]
noncomputable def noH : List Str := ["many", "weights", "ties_sorted", "neighbours"]
noncomputable def msH : List (Str × Str × Stmt) := [("__init__", "Web.__init__", sInit), ("size", "Web.size", sMSize), ("ties", "Web.ties", sTies), ("weight", "Web.weight", sWeight)]
noncomputable def seeH (s : Shared) : See := seeOf zsH ksH dsH "Web" noH msH (fragH s.heap)
noncomputable def goodH : See := seeGood zsH ksH dsH noH msH
noncomputable def XtH (s : Shared) : Bool := PySem.W.xlAt Qv [] s && PySem.W.recOk (PySem.W.RowW.records (PySem.Challenge.rw_pairsheath_k29_whole_choices_laid_open.row).toRowW) s
noncomputable def dL : PySem.DefRec := ⟨"law", defArgs sLaw, defBody sLaw, defScope sLaw, posH sLaw⟩
set_option maxRecDepth 100000 in
set_option maxHeartbeats 0 in
theorem leftH : PySem.W.LeftO PySem.Challenge.pw_pairsheath_k29_whole_choices_laid_open Qv [] XtH seeH (fun _ => goodH) 4126 := fun w => by
 unfold PySem.W.openEnds PySem.W.fencedOpening PySem.W.topFrom
 rw [PySem.W.Fast.te14082659384304107361, PySem.W.Fast.te14364793385576792824, PySem.W.Fast.te10274390034422433532]
 kernel_rfl
set_option maxRecDepth 100000 in
set_option maxHeartbeats 0 in
theorem callH : PySem.W.WalkX Qv [] (PySem.W.XL Qv []) seeH (fun _ => goodH) (PySem.Challenge.rw_pairsheath_k29_whole_choices_laid_open.row).toRowW dL [] (fun f vs => PySem.call f vs) := by
 refine walkS fun w s₀ y => ?_
 refine gz9 fun _ bk0 => ?_
 obtain ⟨hz, hk, hd, hC⟩ := see_of y
 obtain ⟨C, aC, cls, mk, kc, hn, hm⟩ := cls_see hC
 obtain ⟨t0, a0⟩ := num_see (hk ("MOST_POINTS", 24) (List.mem_of_getElem? (i := 0) rfl))
 refine bk0 ?_
 refine walk (l := PySem.Challenge.rw_pairsheath_k29_whole_choices_laid_open) (K := fun _ => fragH s₀.heap) rfl rfl (fun w h Y => Y) fun w mg fa h KX G hmg => ?_
 have z := fun (i : Nat) {x : Str} (e : zsH[i]? = some x) => hz x (List.mem_of_getElem? e)
 have n := fun (i : Nat) {x : Str} (e : noH[i]? = some x) => hn x (List.mem_of_getElem? e)
 have d := fun (i : Nat) {x : Str} {st : Stmt} (e : dsH[i]? = some (x, st)) => see_def KX G (hd (x, st) (List.mem_of_getElem? e))
 have m := fun (i : Nat) {x q : Str} {st : Stmt} (e : msH[i]? = some (x, q, st)) => see_met (hm (x, q, st) (List.mem_of_getElem? e))
 exact all_mk KX G hmg aC a0 (z 0 rfl) (z 1 rfl) (z 2 rfl) (z 3 rfl) (z 4 rfl) (z 5 rfl) (z 6 rfl) (z 7 rfl) (z 8 rfl) ⟨cls.1, cls.2.1, cls.2.2.1, cls.2.2.2⟩ mk kc (n 0 rfl) (n 1 rfl) (n 2 rfl) (n 3 rfl) (d 0 rfl) (d 1 rfl) (d 2 rfl) (d 3 rfl) (d 4 rfl) (d 5 rfl) (d 6 rfl) (d 7 rfl) (d 8 rfl) (d 9 rfl) (d 10 rfl) (d 11 rfl) (d 12 rfl) (d 13 rfl) (d 14 rfl) (d 15 rfl) (d 16 rfl) (d 17 rfl) (d 18 rfl) (d 19 rfl) (d 20 rfl) (d 21 rfl) (d 22 rfl) (d 23 rfl) (m 0 rfl) (m 1 rfl) (m 2 rfl) (m 3 rfl) (d 24 rfl)
end K29
end
set_option Elab.async false
set_option linter.all false
set_option maxRecDepth 100000
set_option maxHeartbeats 4000000
open PySem PySem.W PyProof.Rows
set_option maxRecDepth 100000 in
set_option maxHeartbeats 0 in
theorem PySem.Challenge.cw_pairsheath_k29_whole_choices_laid_open_holds : PySem.Challenge.rw_pairsheath_k29_whole_choices_laid_open.Holds := by
 refine holds_law (by kernel_rfl) fun said => ?_
 refine holds_openX (q := K29.Qv) (Xt := K29.XtH) (d := K29.dL) K29.leftH (fun s e => xl_of s (Bool.and_eq_true_iff.mp e).1) XL.keeps (by kernel_rfl) (by kernel_rfl) (by kernel_rfl) (fun s e => recFacts_of (Bool.and_eq_true_iff.mp e).2) (by kernel_rfl) said (by kernel_rfl) ⟨rfl, rfl, rfl, rfl, rfl, by decide +kernel⟩ ?hw K29.callH
 w_witness2
