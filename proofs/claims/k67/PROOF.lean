import PyProof.Rows.All
import Wide.All
import OpenK.AllK
import Wide.FinOn
import Lean
import PyProof.EqAt
import PyProof.EqKinds
import PyProof.TupleCall
import PyProof.AttrMissHeap
import KE.KEqDict
import PySem.Challenge.RW_mergetree_k67_whole_runs_walked
set_option Elab.async false
set_option linter.all false
set_option maxRecDepth 100000
/-! THE HAND LAYER, for ints, bools, texts, own classes, LISTS and tuples (index, slices, in, append, pop ..), calls, loops. Paste it whole ahead of your own text; what your proof does not reach may be deleted. -/
namespace L2
open PySem PySem.Spec PyProof.Rows

/-- a key: an int or a str -/
abbrev Key := Sum Int Str
def keyIs : Key → Value → Bool
  | .inl k, v => Value.isInt k v
  | .inr x, v => Value.isStrOf x v
def keyH (w : World) : Key → Int
  | .inl k => hashInt k
  | .inr x => hashStr w x
theorem keyIs_shape : ∀ {k : Key} {v : Value}, keyIs k v = true → (∃ i t, k = Sum.inl i ∧ v = Value.int i t) ∨ (∃ x t, k = Sum.inr x ∧ v = Value.str x t)
  | .inl i, v, h => by
    obtain ⟨t, e⟩ := Value.isInt_shape (k := i) (v := v) h
    exact .inl ⟨i, t, rfl, e⟩
  | .inr x, v, h => by
    obtain ⟨t, e⟩ := Value.isStrOf_shape (x := x) (v := v) h
    exact .inr ⟨x, t, rfl, e⟩
theorem keyIs_int (i : Int) (t : Tok) : keyIs (.inl i) (.int i t) = true := by simp [keyIs, Value.isInt]
theorem keyIs_str (x : Str) (t : Tok) : keyIs (.inr x) (.str x t) = true := by simp [keyIs, Value.isStrOf]
theorem key_ll (a b : Int) : decide ((Sum.inl a : Key) = Sum.inl b) = (a == b) := by
  by_cases e : a = b
  · subst e; simp
  · have h : ¬ (Sum.inl a : Key) = Sum.inl b := fun q => e (Sum.inl.inj q)
    rw [decide_eq_false h]
    exact (beq_eq_false_iff_ne.mpr e).symm
theorem key_rr (a b : Str) : decide ((Sum.inr a : Key) = Sum.inr b) = decide (a = b) := by
  by_cases e : a = b
  · subst e; simp
  · have h : ¬ (Sum.inr a : Key) = Sum.inr b := fun q => e (Sum.inr.inj q)
    rw [decide_eq_false h, decide_eq_false e]
theorem key_lr (a : Int) (b : Str) : decide ((Sum.inl a : Key) = Sum.inr b) = false := decide_eq_false (fun q => nomatch q)
theorem key_rl (a : Str) (b : Int) : decide ((Sum.inr a : Key) = Sum.inl b) = false := decide_eq_false (fun q => nomatch q)

def mixKind (prog : Program) (w : World) : PySem.KeyKind prog w Key where
  is := keyIs
  hash := keyH w
  inj := fun v a b ha hb => by
    rcases keyIs_shape ha with ⟨i, t, rfl, rfl⟩ | ⟨x, t, rfl, rfl⟩
    · rcases keyIs_shape hb with ⟨j, u, rfl, e⟩ | ⟨y, u, rfl, e⟩
      · injection e with e1 _; rw [e1]
      · exact nomatch e
    · rcases keyIs_shape hb with ⟨j, u, rfl, e⟩ | ⟨y, u, rfl, e⟩
      · exact nomatch e
      · injection e with e1 _; rw [e1]
  byValue := fun k v h => by
    rcases keyIs_shape h with ⟨i, t, rfl, rfl⟩ | ⟨x, t, rfl, rfl⟩ <;> rfl
  pyHash := fun hv h => by
    rcases keyIs_shape hv with ⟨i, t, rfl, rfl⟩ | ⟨x, t, rfl, rfl⟩
    · exact wpAny_pyHash_int h
    · exact wpAny_pyHash_str h
  eqBool := fun hu hv h => by
    rcases keyIs_shape hu with ⟨i, t, rfl, rfl⟩ | ⟨x, t, rfl, rfl⟩
    · rcases keyIs_shape hv with ⟨j, u, rfl, rfl⟩ | ⟨y, u, rfl, rfl⟩
      · rw [key_ll] at h; exact wpAny_eqBool_int h
      · rw [key_lr] at h; exact SeqAt.EqAt.int_str i t y u _ _ _ _ h
    · rcases keyIs_shape hv with ⟨j, u, rfl, rfl⟩ | ⟨y, u, rfl, rfl⟩
      · rw [key_rl] at h; exact SeqAt.EqAt.str_int x t j u _ _ _ _ h
      · rw [key_rr] at h; exact wpAny_eqBool_str h
  «strs» := fun k x t v h => by
    rcases keyIs_shape h with ⟨i, u, rfl, e⟩ | ⟨y, u, rfl, e⟩
    · exact nomatch e
    · injection e with e1 _
      subst e1
      cases v <;> rfl

theorem mixKind_is (prog : Program) (w : World) (k : Key) (v : Value) : (mixKind prog w).is k v = keyIs k v := rfl
theorem mixKind_int (prog : Program) (w : World) (i : Int) (t : Tok) : (mixKind prog w).is (.inl i) (.int i t) = true := keyIs_int i t
theorem mixKind_str (prog : Program) (w : World) (x : Str) (t : Tok) : (mixKind prog w).is (.inr x) (.str x t) = true := keyIs_str x t
end L2

namespace L2
open PySem PySem.Spec PyProof.Rows

/-- a value, without the heap -/
inductive V where
  | non | bl (b : Bool) | int (i : Int) | str (x : Str) | byt (b : Array UInt8) | flt (b : UInt64) | ref (a : Addr) | ty (n : String)
  deriving DecidableEq

def RelV : V → Value → Prop
  | .non, u => u = Value.none
  | .bl b, u => u = Value.bool b
  | .int i, u => ∃ t, u = Value.int i t
  | .str x, u => ∃ t, u = Value.str x t
  | .byt b, u => ∃ t, u = Value.bytes b t
  | .flt b, u => ∃ t, u = Value.float b t
  | .ref a, u => u = Value.ref a
  | .ty n, u => u = Value.type n

abbrev Vals : List V → List Value → Prop := Paired RelV
theorem Vals.length {xs : List V} {us : List Value} (r : Vals xs us) : xs.length = us.length := Paired.length r
theorem Vals.get : ∀ {xs : List V} {us : List Value} {i : Nat} {x : V}, Vals xs us → xs[i]? = some x → ∃ u, us[i]? = some u ∧ RelV x u
  | _, _, _, _, .nil, e => by simp at e
  | _, _, 0, _, .cons r _, e => by simp at e; subst e; exact ⟨_, rfl, r⟩
  | _, _, i + 1, x, .cons _ t, e => by
    obtain ⟨u, h1, h2⟩ := Vals.get (i := i) (x := x) t (by simpa using e)
    exact ⟨u, by simpa using h1, h2⟩
theorem Vals.set {x : V} {u : Value} (r : RelV x u) : ∀ {xs : List V} {us : List Value} (i : Nat), Vals xs us → Vals (xs.set i x) (us.set i u)
  | _, _, _, .nil => .nil
  | _, _, 0, .cons _ t => .cons r t
  | _, _, i + 1, .cons q t => .cons q (Vals.set r i t)
theorem Vals.append : ∀ {xs ys : List V} {us ws : List Value}, Vals xs us → Vals ys ws → Vals (xs ++ ys) (us ++ ws)
  | _, _, _, _, .nil, s => s
  | _, _, _, _, .cons r t, s => .cons r (Vals.append t s)
theorem Vals.take : ∀ {xs : List V} {us : List Value} (n : Nat), Vals xs us → Vals (xs.take n) (us.take n)
  | _, _, 0, _ => .nil
  | _, _, _ + 1, .nil => .nil
  | _, _, n + 1, .cons r t => .cons r (Vals.take n t)
theorem Vals.drop : ∀ {xs : List V} {us : List Value} (n : Nat), Vals xs us → Vals (xs.drop n) (us.drop n)
  | _, _, 0, r => r
  | _, _, _ + 1, .nil => .nil
  | _, _, n + 1, .cons _ t => Vals.drop n t
def RelO : Option V → Option Value → Prop
  | some v, some u => RelV v u
  | none, none => True
  | _, _ => False
def KV {κ : Type} : List (κ × V) → List (κ × Value) → Prop := Paired fun (p : κ × V) (q : κ × Value) => p.1 = q.1 ∧ RelV p.2 q.2

/-- a key of a dict (00_mix): an int or a text -/
def kV : Key → V
  | .inl i => .int i
  | .inr x => .str x

/-- what stands at a tracked address -/
inductive HO where
  /-- a list -/
  | lst (xs : List V)
  /-- a tuple (never changes) -/
  | tup (xs : List V)
  /-- a dict whose keys are ints and texts; one whose keys are tuples of ints and texts (the empty one is both) -/
  | dK (kvs : List (Key × V)) | dT (kvs : List (List Key × V))
  /-- a set of ints: its members, its size -/
  | set (S : Int → Bool) (n : Nat)
  /-- an instance of the class at C, its dict at dx, its attributes -/
  | ins (C dx : Addr) (fs : List (Str × V))
  /-- the dict of the instance at x -/
  | own (x : Addr)
  /-- the dict of an exception -/
  | xd (fs : List (Str × V))
  /-- a bound method, f of x -/
  | met (f x : Addr)
  /-- a range object lo, lo + 1, .. below hi -/
  | rng (lo hi : Int)
  /-- a thing that is known to the object (the script; a dict while a loop walks it): read, never written while it is so -/
  | frz (o : Obj) (u : HO)
  /-- a code object's table -/
  | tbl (ps : Array Value)
  /-- any other thing, by what is true of its one object (a def of one's own: SetO a S n := HO.ext fun h => ..) -/
  | ext (φ : Heap → Prop)

abbrev Hp := Addr → Option HO
def upd (H : Hp) (a : Addr) (o : HO) : Hp := fun b => if b = a then some o else H b
theorem upd_same {H : Hp} {a : Addr} {o : HO} : upd H a o a = some o := by unfold upd; rw [if_pos rfl]
theorem upd_ne {H : Hp} {a b : Addr} {o : HO} (h : b ≠ a) : upd H a o b = H b := by unfold upd; rw [if_neg h]
/-- two objects of different content stand apart -/
theorem ne_of {H : Hp} {a b : Addr} {o u : HO} (h : H a = some o) (h' : H b = some u) (d : o ≠ u) : a ≠ b := by
  intro e; subst e; rw [h] at h'; exact d (Option.some.inj h')
theorem ne_of_none {H : Hp} {a b : Addr} {o : HO} (h : H a = some o) (h' : H b = none) : a ≠ b := by
  intro e; subst e; rw [h] at h'; cases h'

section
variable (P : Program) (w : World)
def ObjOk (H : Hp) (h : Heap) (a : Addr) : HO → Prop
  | .lst xs => xs.length ≤ sizeLine ∧ ∃ (its : List Value) (n : Nat), Vals xs its ∧ h.get? a = some { cls := .type "list", data := .seq its.toArray n }
  | .tup xs => xs.length ≤ sizeLine ∧ ∃ its : List Value, Vals xs its ∧ IsTup h a its.toArray
  | .dK kvs => kvs.length ≤ sizeLine ∧ (a == sysModules) = false ∧ ∃ vs, KV kvs vs ∧ h.DictOf (mixKind P w) a vs
  | .dT kvs => kvs.length ≤ sizeLine ∧ (a == sysModules) = false ∧ ∃ xs : List (List Key × Addr × Value),
      Paired (fun (p : List Key × V) (q : List Key × Addr × Value) => p.1 = q.1 ∧ H q.2.1 = some (.tup (p.1.map kV)) ∧ RelV p.2 q.2.2) kvs xs ∧
      ∃ o es ep, h.get? a = some o ∧ o.ExactDict ∧ o.data = .dict es ep ∧ es.toList = xs.map (entryOfKey (tupleKind (mixKind P w))) ∧ (xs.map (·.1)).Nodup
  | .set S n => h.SetOf (intKind P w) a S n
  | .ins C dx fs => H dx = some (.own a) ∧ fs.length ≤ 1000 ∧ dx ≠ a ∧ h.get? a = some (PySem.W.instObj C dx) ∧
      ∃ mA, h.Ns1 dx mA ∧ (∀ f, RelO (fs.lookup f) (mA f)) ∧ PySem.Within mA (fs.map (·.1))
  | .own _ => ∃ o, h.get? a = some o
  | .xd fs => ∃ mA, h.Ns1 a mA ∧ ∀ f, RelO (fs.lookup f) (mA f)
  | .rng lo hi => ∃ t u v, h.get? a = some { cls := .type "range", data := .fields #[.int lo t, .int hi u, .int 1 v] }
  | .frz o u => h.get? a = some o ∧ ObjOk H h a u
  | .tbl ps => h.get? a = some { cls := .none, data := .fields ps }
  | .met f x => h.get? a = some (PySem.W.methodObj (.ref f) (.ref x))
  | .ext φ => φ h ∧ (∃ o, h.get? a = some o) ∧ ∀ h1 h2 : Heap, φ h1 → (∀ o, h1.get? a = some o → h2.get? a = some o) → φ h2
/-- the abstract heap is held -/
def HOk (H : Hp) (h : Heap) : Prop := ∀ a o, H a = some o → ObjOk P w H h a o
end

section
variable {P : Program} {w : World} {H H' : Hp} {h h' : Heap} {a : Addr} {o : HO}
theorem ObjOk.lt (x : ObjOk P w H h a o) : a < h.objs.size := by
  cases o with
  | lst xs => obtain ⟨_, _, _, _, e⟩ := x; exact Heap.lt_size e
  | tup xs => obtain ⟨_, _, _, p⟩ := x; exact p.lt
  | dK kvs => obtain ⟨_, _, _, _, o, _, _, e, _⟩ := x; exact Heap.lt_size e
  | dT kvs => obtain ⟨_, _, _, _, o, _, _, e, _⟩ := x; exact Heap.lt_size e
  | set S n => obtain ⟨o, _, _, _, e, _⟩ := x; exact Heap.lt_size e
  | ins C dx fs => obtain ⟨_, _, _, e, _⟩ := x; exact Heap.lt_size e
  | own y => obtain ⟨_, e⟩ := x; exact Heap.lt_size e
  | xd fs => obtain ⟨_, ⟨_, _, _, e, _⟩, _⟩ := x; exact Heap.lt_size e
  | rng lo hi => obtain ⟨_, _, _, e⟩ := x; exact Heap.lt_size e
  | frz ob u => obtain ⟨e, _⟩ := x; exact Heap.lt_size e
  | tbl ps => exact Heap.lt_size (show h.get? a = some _ from x)
  | met f y => exact Heap.lt_size (show h.get? a = some _ from x)
  | ext φ => obtain ⟨_, ⟨_, e⟩, _⟩ := x; exact Heap.lt_size e
theorem Paired.mapP {α β : Type} {F G : α → β → Prop} : ∀ {l₁ : List α} {l₂ : List β}, Paired F l₁ l₂ → (∀ a b, F a b → G a b) → Paired G l₁ l₂
  | _, _, .nil, _ => .nil
  | _, _, .cons r t, f => .cons (f _ _ r) (Paired.mapP t f)
/-- what an object's description leans on: its own object, its own dict, the tuples -/
theorem ObjOk.stay (x : ObjOk P w H h a o) (k : ∀ b u, (b = a ∨ H b = some (.own a)) → h.get? b = some u → h'.get? b = some u)
    (ho : ∀ b, H b = some (.own a) → H' b = some (.own a)) (ht : ∀ b xs, H b = some (.tup xs) → H' b = some (.tup xs)) : ObjOk P w H' h' a o := by
  induction o with
  | lst xs => obtain ⟨z, its, n, r, e⟩ := x; exact ⟨z, its, n, r, k _ _ (.inl rfl) e⟩
  | tup xs => obtain ⟨z, its, r, ob, e, c⟩ := x; exact ⟨z, its, r, ob, k _ _ (.inl rfl) e, c⟩
  | dK kvs => obtain ⟨z, y, vs, r, ob, es, ep, e, c⟩ := x; exact ⟨z, y, vs, r, ob, es, ep, k _ _ (.inl rfl) e, c⟩
  | dT kvs =>
    obtain ⟨z, y, xs, r, ob, es, ep, e, c⟩ := x
    exact ⟨z, y, xs, Paired.mapP r fun p q z => ⟨z.1, ht _ _ z.2.1, z.2.2⟩, ob, es, ep, k _ _ (.inl rfl) e, c⟩
  | set S n => obtain ⟨ob, es, ep, t, e, c⟩ := x; exact ⟨ob, es, ep, t, k _ _ (.inl rfl) e, c⟩
  | ins C dx fs =>
    obtain ⟨d, z, ne, e, mA, ⟨od, es, ep, e2, c⟩, r⟩ := x
    exact ⟨ho _ d, z, ne, k _ _ (.inl rfl) e, mA, ⟨od, es, ep, k _ _ (.inr d) e2, c⟩, r⟩
  | own y => obtain ⟨ob, e⟩ := x; exact ⟨ob, k _ _ (.inl rfl) e⟩
  | xd fs => obtain ⟨mA, ⟨od, es, ep, e, c⟩, r⟩ := x; exact ⟨mA, ⟨od, es, ep, k _ _ (.inl rfl) e, c⟩, r⟩
  | rng lo hi => obtain ⟨t, u, v, e⟩ := x; exact ⟨t, u, v, k _ _ (.inl rfl) e⟩
  | frz ob u ih => obtain ⟨e, q⟩ := x; exact ⟨k _ _ (.inl rfl) e, ih q⟩
  | tbl ps =>
    have e : h.get? a = some { cls := .none, data := .fields ps } := x
    show h'.get? a = some { cls := .none, data := .fields ps }
    exact k a _ (.inl rfl) e
  | met f y =>
    have e : h.get? a = some (PySem.W.methodObj (.ref f) (.ref y)) := x
    show h'.get? a = some (PySem.W.methodObj (.ref f) (.ref y))
    exact k a _ (.inl rfl) e
  | ext φ => obtain ⟨p, ⟨o, e⟩, st⟩ := x; exact ⟨st _ _ p fun o q => k _ _ (.inl rfl) q, ⟨o, k _ _ (.inl rfl) e⟩, st⟩
theorem HOk.lt (x : HOk P w H h) (e : H a = some o) : a < h.objs.size := (x a o e).lt
theorem HOk.fresh (x : HOk P w H h) (e : h.objs.size ≤ a) : H a = none := by
  cases q : H a with
  | none => rfl
  | some u => exact absurd (Nat.lt_of_lt_of_le (x.lt q) e) (Nat.lt_irrefl _)
/-- every object of the heap is kept -/
theorem HOk.kept (x : HOk P w H h) (k : ∀ b u, h.get? b = some u → h'.get? b = some u) : HOk P w H h' := fun a o e =>
  (x a o e).stay (fun b u _ q => k b u q) (fun _ q => q) fun _ _ q => q
/-- a new object is laid and tracked -/
theorem HOk.laid (x : HOk P w H h) (k : ∀ b u, h.get? b = some u → h'.get? b = some u) (hp : h.objs.size ≤ a) (new : ObjOk P w (upd H a o) h' a o) : HOk P w (upd H a o) h' := fun b u e => by
  have hn := x.fresh hp
  by_cases hb : b = a
  · subst hb; rw [upd_same] at e; cases e; exact new
  · rw [upd_ne hb] at e
    exact (x b u e).stay (fun c v _ q => k c v q) (fun c q => by rw [upd_ne (ne_of_none q hn)]; exact q) fun c xs q => by rw [upd_ne (ne_of_none q hn)]; exact q
end

/-- what may be read as u: it is u, or a known u -/
def Rd (H : Hp) (a : Addr) (u : HO) : Prop := H a = some u ∨ ∃ o, H a = some (.frz o u)
theorem Rd.ok {P : Program} {w : World} {H : Hp} {h : Heap} {a : Addr} {u : HO} (r : Rd H a u) (x : HOk P w H h) : ObjOk P w H h a u := by
  rcases r with r | ⟨o, r⟩
  · exact x a u r
  · obtain ⟨_, q⟩ := x a _ r
    exact q
/-- what may be written -/
def Mut : Option HO → Prop
  | some (.lst _) => True
  | some (.dK _) => True
  | some (.dT _) => True
  | some (.set _ _) => True
  | some (.ins _ _ _) => True
  | some (.ext _) => True
  | _ => False
section
variable {P : Program} {w : World} {H : Hp} {h h' : Heap} {x e : Addr} {o' : HO}
/-- the object at e is changed: x itself, or the dict of the instance x -/
theorem HOk.write (ok : HOk P w H h) (mu : Mut (H x)) (he : e = x ∨ H e = some (.own x)) (k : ∀ b u, b ≠ e → h.get? b = some u → h'.get? b = some u) (heo : ∃ u, h'.get? e = some u)
    (new : ObjOk P w (upd H x o') h' x o') : HOk P w (upd H x o') h' := fun b u q => by
  have nown : ∀ c y, H c = some (.own y) → c ≠ x := fun c y r z => by subst z; rw [r] at mu; exact mu
  have ntup : ∀ c xs, H c = some (.tup xs) → c ≠ x := fun c xs r z => by subst z; rw [r] at mu; exact mu
  by_cases hb : b = x
  · subst hb; rw [upd_same] at q; cases q; exact new
  · rw [upd_ne hb] at q
    by_cases hbe : b = e
    · have q' : H b = some (.own x) := by
        rcases he with z | z
        · exact absurd (hbe.trans z) hb
        · rw [hbe]; exact z
      rw [q] at q'; cases q'
      obtain ⟨v, hv⟩ := heo
      exact ⟨v, by rw [hbe]; exact hv⟩
    · refine (ok b u q).stay (fun c v hc r => k c v ?_ r) (fun c r => by rw [upd_ne (nown c b r)]; exact r) fun c xs r => by rw [upd_ne (ntup c xs r)]; exact r
      rcases hc with rfl | hc
      · exact hbe
      · rintro rfl
        rcases he with z | z
        · exact nown c b hc z
        · rw [hc] at z; cases z; exact hb rfl
end

/-! ### kept unless tracked; of the frames at fs (the callers') the slots may change (an exception that passes writes there); of the records at ex (iterators) nothing is said -/
structure Un (fs ex : List Addr) (H H' : Hp) (h h' : Heap) : Prop where
  keep : ∀ b o, h.get? b = some o → H b = none → b ∉ fs → b ∉ ex → h'.get? b = some o
  slot : ∀ b o, h.get? b = some o → H b = none → b ∈ fs → b ∉ ex → ∃ sl, h'.get? b = some { o with slots := sl }
  free : ∀ b o, h.get? b = some o → H b = none → b ∉ ex → H' b = none
  there : ∀ b o, h.get? b = some o → b ∉ ex → ∃ o', h'.get? b = some o'
  tups : ∀ b xs, H b = some (.tup xs) → H' b = some (.tup xs)
  frzs : ∀ b o u, H b = some (.frz o u) → H' b = some (.frz o u)
  tbls : ∀ b ps, H b = some (.tbl ps) → ∃ more, H' b = some (.tbl (ps ++ more))
section
variable {fs fs' ex ex' : List Addr} {H H1 H2 : Hp} {h h1 h2 h' : Heap} {a x e : Addr} {o : HO}
theorem Un.any (u : Un fs ex H H1 h h1) {b : Addr} {ob : Obj} (q : h.get? b = some ob) (n : H b = none) (hx : b ∉ ex) : ∃ sl, h1.get? b = some { ob with slots := sl } := by
  by_cases hb : b ∈ fs
  · exact u.slot b ob q n hb hx
  · exact ⟨ob.slots, u.keep b ob q n hb hx⟩
theorem Un.kept (k : ∀ b u, h.get? b = some u → h'.get? b = some u) : Un fs ex H H h h' :=
  ⟨fun b ob q _ _ _ => k b ob q, fun b ob q _ _ _ => ⟨ob.slots, k b ob q⟩, fun _ _ _ n _ => n, fun b ob q _ => ⟨ob, k b ob q⟩, fun _ _ q => q, fun _ _ _ q => q, fun _ ps q => ⟨#[], by rw [q]; simp⟩⟩
theorem Un.refl : Un fs ex H H h h := Un.kept fun _ _ q => q
theorem Un.laid (k : ∀ b u, h.get? b = some u → h'.get? b = some u) (hp : h.objs.size ≤ a) (hn : H a = none) : Un fs ex H (upd H a o) h h' where
  keep := fun b u q _ _ _ => k b u q
  slot := fun b u q _ _ _ => ⟨u.slots, k b u q⟩
  free := fun b u q n _ => by rw [upd_ne (Nat.ne_of_lt (Nat.lt_of_lt_of_le (Heap.lt_size q) hp))]; exact n
  there := fun b u q _ => ⟨u, k b u q⟩
  tups := fun b xs q => by rw [upd_ne (ne_of_none q hn)]; exact q
  frzs := fun b u xs q => by rw [upd_ne (ne_of_none q hn)]; exact q
  tbls := fun b ps q => ⟨#[], by rw [upd_ne (ne_of_none q hn), q]; simp⟩
theorem Un.write (mu : Mut (H x)) (he : e = x ∨ H e = some (.own x)) (k : ∀ b u, b ≠ e → h.get? b = some u → h'.get? b = some u) (heo : ∃ u, h'.get? e = some u) : Un fs ex H (upd H x o) h h' := by
  have hx : ∀ b, H b = none → b ≠ x := fun b n z => by subst z; rw [n] at mu; exact mu
  have hb : ∀ b, H b = none → b ≠ e := fun b n z => by
    subst z
    rcases he with r | r
    · exact hx b n r
    · rw [n] at r; cases r
  have hm : ∀ b u, H b = some u → ¬ Mut (some u) → b ≠ x := fun b u q nm z => by subst z; rw [q] at mu; exact nm mu
  refine ⟨fun b u q n _ _ => k b u (hb b n) q, fun b u q n _ _ => ⟨u.slots, k b u (hb b n) q⟩, fun b u q n _ => by rw [upd_ne (hx b n)]; exact n, fun b u q _ => ?_,
    fun b xs q => by rw [upd_ne (hm b _ q fun z => z)]; exact q, fun b u xs q => by rw [upd_ne (hm b _ q fun z => z)]; exact q, fun b ps q => ⟨#[], by rw [upd_ne (hm b _ q fun z => z), q]; simp⟩⟩
  by_cases hbe : b = e
  · subst hbe; exact heo
  · exact ⟨u, k b u hbe q⟩
end

/-! ### the heap without what is tracked -/
def trk (h : Heap) (H : Hp) : List Addr := (List.range h.objs.size).filter fun a => (H a).isSome
def hidT (h : Heap) (H : Hp) : Heap := PySem.W.hideAll h (trk h H)
theorem hidT_size (h : Heap) (H : Hp) : (hidT h H).objs.size = h.objs.size := PySem.W.hideAll_size _ _
theorem hidT_get {h : Heap} {H : Hp} {b : Addr} {o : Obj} (e : h.get? b = some o) (n : H b = none) : (hidT h H).get? b = some o :=
  PySem.W.hideAll_get _ e fun hm => by
    have q : (H b).isSome = true := (List.mem_filter.mp hm).2
    rw [n] at q; simp at q
theorem of_hidT {h : Heap} {H : Hp} {b : Addr} {o : Obj} (e : (hidT h H).get? b = some o) : h.get? b = some o ∧ H b = none := by
  have e' : h.get? b = some o := PySem.W.of_hideAll (trk h H) e
  refine ⟨e', ?_⟩
  cases q : H b with
  | none => rfl
  | some x =>
    have hm : b ∈ trk h H := List.mem_filter.mpr ⟨List.mem_range.mpr (Heap.lt_size e'), by simp [q]⟩
    have z : (hidT h H).get? b = none := PySem.W.hideAll_none (trk h H) hm
    rw [z] at e; cases e

/-! ### OpenK's ledger, filled with every new object but one -/
def allNews (g h : Heap) (L : Addr) : List (Addr × Obj) := (List.range h.objs.size).filterMap fun a => if a = L ∨ (g.get? a).isSome = true then none else (h.get? a).map fun o => (a, o)
def rest (g h : Heap) (L d : Addr) : List (Addr × Obj) := (allNews g h L).filter fun p => decide (p.1 ≠ d)
end L2

namespace L2
open PySem PySem.Spec PyProof.Rows

/-- the module's facts, over the base: the heap at the law's entry without what is tracked there -/
structure Mod (K : PySem.W.Frag) (mg : Str → Option Value) (base : Heap) : Prop where
  kin : K.In base
  glob : base.Ns mainGlobals mg
  blt : ∃ mb, base.Ns builtinsNs mb ∧ ∀ x : Str, x ≠ "__name__" → mb x = bootBuiltins x
  nolimit : base.NoLimit

/-- the context: a def's body (or a comprehension's block) running. base: fixed through the whole law; s₀, H₀: the entry; outer: the frames whose slots others may change (a def's callers); stack: all frames that run;
   ex: iterators that were made ahead of the entry and are walked here (a comprehension's); fn: the names whose cells were made at the entry (a def: all; a comprehension's block: its own); calm: not within an except suite; pn: pins that every state bears; xe: what is wanted of an exception that leaves the code -/
structure Cx where
  prog : Program
  w : World
  K : PySem.W.Frag
  mg : Str → Option Value
  base : Heap
  A : Around
  N : List Str
  s₀ : Shared
  H₀ : Hp
  env : Env
  outer : List Env
  stack : List Env
  ex : List Addr
  fn : Str → Bool
  calm : Bool
  pn : List (Addr × Obj)
  xe : Value → Shared → Prop
/-- the callers' frames -/
def frs (l : List Env) : List Addr := l.filterMap (·.frame)
abbrev Cx.fs (X : Cx) : List Addr := frs X.outer

def Vis (sc : Scope) (x : Str) : Prop := sc.names.lookup x = some .local ∨ sc.names.lookup x = some .cell ∨ sc.names.lookup x = some .free
def Loc (sc : Scope) (x : Str) : Prop := sc.names.lookup x = some .local ∨ sc.names.lookup x = some .cell
def Look (env : Env) (h : Heap) (m : Str → Option Value) (x : Str) (u : Value) : Prop :=
  (env.kindOf x = some .local ∧ m x = some u) ∨ ((env.kindOf x = some .cell ∨ env.kindOf x = some .free) ∧ ∃ c, env.cells.lookup x = some c ∧ h.IsCell c (some u))

structure Cx.Ok (X : Cx) : Prop where
  mod : Mod X.K X.mg X.base
  kind : X.env.scope.kind = .function
  glob : X.env.globals = mainGlobals
  blt : X.env.builtins = builtinsNs
  above : X.s₀.heap.objs.size ≤ X.env.locals
  inj : ∀ x y c, X.env.cells.lookup x = some c → X.env.cells.lookup y = some c → x = y
  has : ∀ x, (X.env.kindOf x = some .cell ∨ X.env.kindOf x = some .free) → ∃ c, X.env.cells.lookup x = some c
  cab : ∀ x c, X.fn x = true → X.env.cells.lookup x = some c → X.s₀.heap.objs.size ≤ c
  hd : X.calm = true → X.A.handled = none
  frames : X.A.frames = some X.stack
  stk : X.stack = X.outer ∨ (X.stack = X.env :: X.outer ∧ X.env.frame = some X.env.locals)
  exf : ∀ b ∈ X.ex, b ≠ X.env.locals ∧ ∀ x c, X.env.cells.lookup x = some c → c ≠ b
  bs : ∀ b o, X.base.get? b = some o → X.s₀.heap.get? b = some o ∧ X.H₀ b = none
  bsz : X.base.objs.size ≤ X.s₀.heap.objs.size
  noex : ∀ b o, X.base.get? b = some o → b ∉ X.ex
  exfs : ∀ b ∈ X.ex, b ∉ X.fs
  funs : X.s₀.heap.FunFrames X.base X.outer
  frf : ∀ b ∈ X.fs, X.H₀ b = none

structure Inv (X : Cx) (pins : List (Addr × Obj)) (σ : List (Option V)) (H : Hp) (s : Shared) : Prop where
  ok : X.Ok
  os : s.os = X.s₀.os
  bare : AllBare s.gens
  base : Un X.fs X.ex X.H₀ H X.s₀.heap s.heap
  loc : ∃ m, s.heap.Ns X.env.locals m ∧ ∀ (i : Nat) (x : Str) (v : V), X.N[i]? = some x → σ[i]? = some (some v) → Vis X.env.scope x → ∃ u, RelV v u ∧ Look X.env s.heap m x u
  cell : ∀ x c, X.env.cells.lookup x = some c → ∃ v, s.heap.IsCell c v
  free : H X.env.locals = none
  freeC : ∀ x c, X.env.cells.lookup x = some c → H c = none
  pin : ∀ p ∈ X.pn ++ pins, s.heap.get? p.1 = some p.2 ∧ H p.1 = none ∧ p.1 ≠ X.env.locals ∧ p.1 ∉ X.fs ∧ ∀ v, p.2.data ≠ .cell v
  hok : HOk X.prog X.w H s.heap
  len : σ.length = X.N.length

section
variable {X : Cx} {pins : List (Addr × Obj)} {σ : List (Option V)} {H H' : Hp} {s : Shared} {h' : Heap}

theorem Cx.Ok.nofr (ok : X.Ok) {b : Addr} {o : Obj} (e : X.base.get? b = some o) : b ∉ X.fs := fun hb => by
  have := (ok.funs.mem hb).1
  rw [e] at this; cases this
theorem Inv.bs (I : Inv X pins σ H s) : ∀ b o, X.base.get? b = some o → s.heap.get? b = some o ∧ H b = none := fun b o e =>
  ⟨I.base.keep b o (I.ok.bs b o e).1 (I.ok.bs b o e).2 (I.ok.nofr e) (I.ok.noex b o e), I.base.free b o (I.ok.bs b o e).1 (I.ok.bs b o e).2 (I.ok.noex b o e)⟩
theorem Inv.bk (I : Inv X pins σ H s) : ∀ b o, X.base.get? b = some o → s.heap.get? b = some o := fun b o e => (I.bs b o e).1
theorem Inv.mod (I : Inv X pins σ H s) : Mod X.K X.mg X.base := I.ok.mod
theorem Inv.kIn (I : Inv X pins σ H s) : X.K.In s.heap := I.ok.mod.kin.keeps I.bk
theorem Inv.lt (I : Inv X pins σ H s) : X.env.locals < s.heap.objs.size := let ⟨_, hn, _⟩ := I.loc; hn.lt
theorem Inv.sz (I : Inv X pins σ H s) : X.s₀.heap.objs.size ≤ s.heap.objs.size := Nat.le_trans I.ok.above (Nat.le_of_lt I.lt)
theorem Inv.nofs (I : Inv X pins σ H s) {a : Addr} (h : s.heap.objs.size ≤ a) : a ∉ X.fs := fun hb => by
  obtain ⟨_, o, ho, _⟩ := I.ok.funs.mem hb
  exact absurd (Nat.lt_of_lt_of_le (Heap.lt_size ho) (Nat.le_trans I.sz h)) (Nat.lt_irrefl _)
theorem Inv.cne (I : Inv X pins σ H s) : ∀ x c, X.env.cells.lookup x = some c → c ≠ X.env.locals := fun x c e z => by
  obtain ⟨v, o, ho, hd⟩ := I.cell x c e
  obtain ⟨m, ⟨o', es, ep, ho', hd', _⟩, _⟩ := I.loc
  rw [z, ho'] at ho; cases ho; rw [hd'] at hd; cases hd
theorem Inv.funs (I : Inv X pins σ H s) : s.heap.FunFrames X.base X.outer := by
  have all : ∀ (l : List Env), (∀ b ∈ frs l, b ∈ X.fs) → X.s₀.heap.FunFrames X.base l → s.heap.FunFrames X.base l := by
    intro l
    induction l with
    | nil => intro _ _; trivial
    | cons env r ih =>
      intro hs hl
      obtain ⟨hk, ⟨L, o, hf, hn, ho, hd⟩, hr⟩ := hl
      have hL : L ∈ X.fs := hs L (by unfold frs; rw [List.filterMap_cons, hf]; exact List.mem_cons_self)
      obtain ⟨sl, e⟩ := I.base.slot L o ho (I.ok.frf L hL) hL fun z => I.ok.exfs L z hL
      exact ⟨hk, ⟨L, _, hf, hn, e, hd⟩, ih (fun b hb => hs b (by unfold frs; rw [List.filterMap_cons, hf]; exact List.mem_cons_of_mem _ hb)) hr⟩
  exact all X.outer (fun _ hb => hb) I.ok.funs

/-- the frames that run, for a call -/
theorem Inv.stack (I : Inv X pins σ H s) : s.heap.FunFrames X.base X.stack := by
  rcases I.ok.stk with e | ⟨e, hf⟩
  · rw [e]; exact I.funs
  · rw [e]
    obtain ⟨m, hn, _⟩ := I.loc
    refine .cons (by rw [I.ok.kind]; decide) hf hn ?_ I.funs
    exact Heap.get?_none_of_le (Nat.le_trans I.ok.bsz I.ok.above)
theorem Inv.stkSub (I : Inv X pins σ H s) : ∀ b ∈ frs X.stack, b ∈ X.env.locals :: X.fs := fun b hb => by
  rcases I.ok.stk with e | ⟨e, hf⟩
  · rw [e] at hb; exact List.mem_cons_of_mem _ hb
  · rw [e] at hb
    unfold frs at hb
    rw [List.filterMap_cons, hf] at hb
    exact hb
theorem Inv.stkFree (I : Inv X pins σ H s) : ∀ b ∈ frs X.stack, H b = none := fun b hb => by
  rcases List.mem_cons.mp (I.stkSub b hb) with e | hb
  · rw [e]; exact I.free
  · obtain ⟨_, o, ho, _⟩ := I.ok.funs.mem hb
    exact I.base.free b o ho (I.ok.frf b hb) fun z => I.ok.exfs b z hb

/-- THE STEP: the untracked objects but the frame and the records at ch are kept (the callers' frames up to slots), the frame's map is kept, the new abstract heap is held -/
theorem Inv.step {g' : Array GenState} {t' : Nat} {d' : Drawn} {ch : List Addr} (I : Inv X pins σ H s)
    (hch : ∀ b ∈ ch, (b ∈ X.ex ∨ X.s₀.heap.objs.size ≤ b) ∧ b ≠ X.env.locals ∧ (∀ x c, X.env.cells.lookup x = some c → c ≠ b) ∧ ∀ p ∈ X.pn ++ pins, p.1 ≠ b)
    (keep : ∀ b o, b ≠ X.env.locals → b ∉ X.fs → b ∉ ch → s.heap.get? b = some o → H b = none → h'.get? b = some o)
    (slot : ∀ b o, b ≠ X.env.locals → b ∈ X.fs → b ∉ ch → s.heap.get? b = some o → H b = none → ∃ sl, h'.get? b = some { o with slots := sl }) (free : ∀ b o, b ∉ ch → s.heap.get? b = some o → H b = none → H' b = none)
    (there : ∀ b o, b ∉ ch → s.heap.get? b = some o → ∃ o', h'.get? b = some o')
    (tups : ∀ b xs, H b = some (.tup xs) → H' b = some (.tup xs)) (frzs : ∀ b o u, H b = some (.frz o u) → H' b = some (.frz o u)) (tbls : ∀ b ps, H b = some (.tbl ps) → ∃ more, H' b = some (.tbl (ps ++ more)))
    (ns : ∀ m, s.heap.Ns X.env.locals m → h'.Ns X.env.locals m) (hok : HOk X.prog X.w H' h') (hg : AllBare g') :
    Inv X pins σ H' { s with heap := h', gens := g', drawn := d', toks := t' } := by
  have neL : ∀ b o, X.s₀.heap.get? b = some o → b ≠ X.env.locals := fun b o e => Nat.ne_of_lt (Nat.lt_of_lt_of_le (Heap.lt_size e) I.ok.above)
  have neC : ∀ b o, X.s₀.heap.get? b = some o → b ∉ X.ex → b ∉ ch := fun b o e hx hb => by
    rcases (hch b hb).1 with z | z
    · exact hx z
    · exact absurd (Nat.lt_of_lt_of_le (Heap.lt_size e) z) (Nat.lt_irrefl _)
  have cellK : ∀ x c, X.env.cells.lookup x = some c → ∀ v, s.heap.IsCell c v → h'.IsCell c v := fun x c e v ⟨o, ho, hd⟩ => by
    have nch : c ∉ ch := fun z => (hch c z).2.2.1 x c e rfl
    by_cases hc : c ∈ X.fs
    · obtain ⟨sl, q⟩ := slot c o (I.cne x c e) hc nch ho (I.freeC x c e)
      exact ⟨_, q, hd⟩
    · exact ⟨o, keep c o (I.cne x c e) hc nch ho (I.freeC x c e), hd⟩
  refine ⟨I.ok, I.os, hg, ⟨fun b o e n hb hx => ?_, fun b o e n hb hx => ?_, fun b o e n hx => ?_, fun b o e hx => ?_, fun b xs e => tups b xs (I.base.tups b xs e), fun b o xs e => frzs b o xs (I.base.frzs b o xs e), fun b ps e => ?_⟩, ?_, fun x c e => ?_, ?_, fun x c e => ?_, fun p hp => ?_, hok, I.len⟩
  · exact keep b o (neL b o e) hb (neC b o e hx) (I.base.keep b o e n hb hx) (I.base.free b o e n hx)
  · obtain ⟨sl, e1⟩ := I.base.slot b o e n hb hx
    obtain ⟨sl', e2⟩ := slot b _ (neL b o e) hb (neC b o e hx) e1 (I.base.free b o e n hx)
    exact ⟨sl', e2⟩
  · obtain ⟨o', e1⟩ := I.base.there b o e hx
    exact free b o' (neC b o e hx) e1 (I.base.free b o e n hx)
  · obtain ⟨o', e1⟩ := I.base.there b o e hx
    exact there b o' (neC b o e hx) e1
  · obtain ⟨m1, e1⟩ := I.base.tbls b ps e
    obtain ⟨m2, e2⟩ := tbls b _ e1
    exact ⟨m1 ++ m2, by rw [e2, Array.append_assoc]⟩
  · obtain ⟨m, hn, hl⟩ := I.loc
    refine ⟨m, ns m hn, fun i x v e1 e2 e3 => ?_⟩
    obtain ⟨u, r, l⟩ := hl i x v e1 e2 e3
    refine ⟨u, r, ?_⟩
    rcases l with l | ⟨k, c, e, z⟩
    · exact .inl l
    · exact .inr ⟨k, c, e, cellK x c e _ z⟩
  · obtain ⟨v, z⟩ := I.cell x c e
    exact ⟨v, cellK x c e v z⟩
  · obtain ⟨m, ⟨o, _, _, ho, _⟩, _⟩ := I.loc
    exact free _ o (fun z => (hch _ z).2.1 rfl) ho I.free
  · obtain ⟨v, o, ho, hd⟩ := I.cell x c e
    exact free c o (fun z => (hch c z).2.2.1 x c e rfl) ho (I.freeC x c e)
  · obtain ⟨e, n, ne, nf, d⟩ := I.pin p hp
    have nch : p.1 ∉ ch := fun z => (hch p.1 z).2.2.2 p hp rfl
    exact ⟨keep p.1 p.2 ne nf nch e n, free p.1 p.2 nch e n, ne, nf, d⟩
/-- .. where the frame's own object is kept too -/
theorem Inv.un {t' : Nat} (I : Inv X pins σ H s) (u : Un X.fs [] H H' s.heap h') (hok : HOk X.prog X.w H' h') : Inv X pins σ H' { s with heap := h', toks := t' } := by
  obtain ⟨m, ⟨o, es, ep, ho, r⟩, _⟩ := id I.loc
  obtain ⟨sl, hL⟩ := u.any ho I.free (by simp)
  exact I.step (g' := s.gens) (d' := s.drawn) (ch := []) (fun _ z => nomatch z) (fun b o _ hb _ e n => u.keep b o e n hb (by simp)) (fun b o _ hb _ e n => u.slot b o e n hb (by simp)) (fun b o _ e n => u.free b o e n (by simp)) (fun b o _ e => u.there b o e (by simp)) u.tups u.frzs u.tbls (fun m' hm => by
    obtain ⟨o', es', ep', ho', r'⟩ := hm
    rw [ho] at ho'; cases ho'
    exact ⟨_, es', ep', hL, r'⟩) hok I.bare
/-- behind a call (or a comprehension's block): the slots of this frame may have changed too, the records at ch may have turned -/
theorem Inv.call {g' : Array GenState} {t' : Nat} {d' : Drawn} {ch : List Addr} (I : Inv X pins σ H s) (u : Un (frs X.stack) ch H H' s.heap h') (hok : HOk X.prog X.w H' h') (hg : AllBare g')
    (hch : ∀ b ∈ ch, (b ∈ X.ex ∨ X.s₀.heap.objs.size ≤ b) ∧ b ≠ X.env.locals ∧ (∀ x c, X.env.cells.lookup x = some c → c ≠ b) ∧ ∀ p ∈ X.pn ++ pins, p.1 ≠ b) :
    Inv X pins σ H' { s with heap := h', gens := g', drawn := d', toks := t' } := by
  obtain ⟨m, ⟨o, es, ep, ho, r⟩, _⟩ := id I.loc
  obtain ⟨sl, hL⟩ := u.any ho I.free fun z => (hch _ z).2.1 rfl
  exact I.step (ch := ch) hch (fun b o hL hb hc e n => u.keep b o e n (fun z => (List.mem_cons.mp (I.stkSub b z)).elim hL hb) hc) (fun b o _ _ hc e n => u.any e n hc) (fun b o hc e n => u.free b o e n hc) (fun b o hc e => u.there b o e hc) u.tups u.frzs u.tbls (fun m' hm => by
    obtain ⟨o', es', ep', ho', r'⟩ := hm
    rw [ho] at ho'; cases ho'
    exact ⟨_, es', ep', hL, r'⟩) hok hg
/-- an untracked record of ours (an iterator) has turned -/
theorem Inv.turned {t' : Nat} {it : Addr} (I : Inv X pins σ H s) (k : ∀ b o, b ≠ it → s.heap.get? b = some o → h'.get? b = some o) (hn : H it = none) (hL : it ≠ X.env.locals)
    (h1 : it ∈ X.ex ∨ X.s₀.heap.objs.size ≤ it) (h2 : ∀ x c, X.env.cells.lookup x = some c → c ≠ it) (h3 : ∀ p ∈ X.pn ++ pins, p.1 ≠ it) : Inv X pins σ H { s with heap := h', toks := t' } := by
  have nit : ∀ b u, H b = some u → b ≠ it := fun b u e z => by rw [z, hn] at e; cases e
  refine I.step (g' := s.gens) (d' := s.drawn) (ch := [it]) (fun b hb => ?_) (fun b o _ _ hc e _ => k b o (fun z => hc (by simp [z])) e) (fun b o _ _ hc e _ => ⟨o.slots, k b o (fun z => hc (by simp [z])) e⟩) (fun _ _ _ _ n => n)
    (fun b o hc e => ⟨o, k b o (fun z => hc (by simp [z])) e⟩) (fun _ _ e => e) (fun _ _ _ e => e) (fun b ps e => ⟨#[], by rw [e]; simp⟩) (fun m hm => ?_) (fun b u e => ?_) I.bare
  · have e : b = it := by simpa using hb
    subst e
    exact ⟨h1, hL, h2, h3⟩
  · obtain ⟨o, es, ep, ho, r⟩ := hm
    exact ⟨o, es, ep, k _ o (Ne.symm hL) ho, r⟩
  · refine (I.hok b u e).stay (fun c v hc q => k c v ?_ q) (fun _ q => q) fun _ _ q => q
    rcases hc with z | z
    · rw [z]; exact nit b u e
    · exact nit c _ z
theorem Inv.tok (I : Inv X pins σ H s) (t : Nat) : Inv X pins σ H { s with toks := t } := I.un (h' := s.heap) (t' := t) Un.refl I.hok
/-- all objects kept -/
theorem Inv.kept {t' : Nat} (I : Inv X pins σ H s) (k : ∀ b u, s.heap.get? b = some u → h'.get? b = some u) : Inv X pins σ H { s with heap := h', toks := t' } := I.un (Un.kept k) (I.hok.kept k)
/-- a new object laid and tracked -/
theorem Inv.laid {a : Addr} {o : HO} {t' : Nat} (I : Inv X pins σ H s) (k : ∀ b u, s.heap.get? b = some u → h'.get? b = some u) (hp : s.heap.objs.size ≤ a) (new : ObjOk X.prog X.w (upd H a o) h' a o) :
    Inv X pins σ (upd H a o) { s with heap := h', toks := t' } := I.un (Un.laid k hp (I.hok.fresh hp)) (I.hok.laid k hp new)
/-- an object written -/
theorem Inv.write {x e : Addr} {o : HO} {t' : Nat} (I : Inv X pins σ H s) (mu : Mut (H x)) (he : e = x ∨ H e = some (.own x)) (k : ∀ b u, b ≠ e → s.heap.get? b = some u → h'.get? b = some u) (heo : ∃ u, h'.get? e = some u)
    (new : ObjOk X.prog X.w (upd H x o) h' x o) : Inv X pins σ (upd H x o) { s with heap := h', toks := t' } := I.un (Un.write mu he k heo) (I.hok.write mu he k heo new)
theorem Inv.pins_of {pins' : List (Addr × Obj)} (I : Inv X pins σ H s) (h : ∀ p ∈ pins', s.heap.get? p.1 = some p.2 ∧ H p.1 = none ∧ p.1 ≠ X.env.locals ∧ p.1 ∉ X.fs ∧ ∀ v, p.2.data ≠ .cell v) : Inv X pins' σ H s :=
  ⟨I.ok, I.os, I.bare, I.base, I.loc, I.cell, I.free, I.freeC, fun p hp => (List.mem_append.mp hp).elim (fun z => I.pin p (List.mem_append_left _ z)) (h p), I.hok, I.len⟩

theorem nodup_ix {N : List Str} (hN : N.Nodup) {i j : Nat} {x : Str} (a : N[i]? = some x) (b : N[j]? = some x) : i = j := by
  obtain ⟨h1, e1⟩ := List.getElem?_eq_some_iff.mp a
  obtain ⟨h2, e2⟩ := List.getElem?_eq_some_iff.mp b
  exact (List.getElem_inj hN).mp (e1.trans e2.symm)

/-- a name is stored; what changed -/
theorem store_ok2 {M : Model} {A : Around} {E : Value → Shared → Prop} {i : Nat} {x : Str} {v : V} {u : Value} {Q : Unit → Shared → Prop} (I : Inv X pins σ H s) (hN : X.N.Nodup) (hi : X.N[i]? = some x) (hx : Loc X.env.scope x) (r : RelV v u)
    (h : ∀ s', Inv X pins (σ.set i (some v)) H s' → (∃ a, Heap.SameBut a s.heap s'.heap ∧ (a = X.env.locals ∨ X.env.cells.lookup x = some a)) → Q () s') (hf : X.fn x = true ∨ X.env.scope.names.lookup x = some .local := by first | exact .inl rfl | exact .inr rfl | assumption) : wpAny M A (storeName X.env x u) Q E s := by
  obtain ⟨m, hn, hl⟩ := id I.loc
  have hcls : (X.env.scope.kind == .class || (X.env.scope.kind == .module && X.env.locals != X.env.globals)) = false := by rw [I.ok.kind]; rfl
  have hiσ : i < σ.length := by rw [I.len]; exact (List.getElem?_eq_some_iff.mp hi).1
  have cne := I.cne
  have tracked : ∀ {a : Addr} {h' : Heap}, (∃ o, s.heap.get? a = some o ∧ H a = none) → Heap.SameBut a s.heap h' → HOk X.prog X.w H h' := fun {a h'} ha hs b ob e => by
    obtain ⟨_, _, hfree⟩ := ha
    refine (I.hok b ob e).stay (fun c w' hc q => (hs.2 c ?_).trans q) (fun _ q => q) fun _ _ q => q
    rintro rfl
    rcases hc with rfl | hc
    · rw [hfree] at e; cases e
    · rw [hfree] at hc; cases hc
  rcases hx with hk | hk
  · refine wpAny_storeName_local hk hn (fun h' hn' hs => ?_) hcls
    obtain ⟨oL, _, _, hoL, _⟩ := id hn
    refine h _ ⟨I.ok, I.os, I.bare, ⟨fun b o e n hb hx => ?_, fun b o e n hb hx => ?_, I.base.free, fun b o e hx => ?_, I.base.tups, I.base.frzs, I.base.tbls⟩, ⟨_, hn', fun j y v' e1 e2 e3 => ?_⟩, fun y c e => ?_, I.free, I.freeC, fun p hp => ?_, tracked ⟨oL, hoL, I.free⟩ hs, by simpa using I.len⟩ ⟨_, hs, .inl rfl⟩
    · exact (hs.2 b (Nat.ne_of_lt (Nat.lt_of_lt_of_le (Heap.lt_size e) I.ok.above))).trans (I.base.keep b o e n hb hx)
    · obtain ⟨sl, e1⟩ := I.base.slot b o e n hb hx
      exact ⟨sl, (hs.2 b (Nat.ne_of_lt (Nat.lt_of_lt_of_le (Heap.lt_size e) I.ok.above))).trans e1⟩
    · obtain ⟨o', e1⟩ := I.base.there b o e hx
      exact ⟨o', (hs.2 b (Nat.ne_of_lt (Nat.lt_of_lt_of_le (Heap.lt_size e) I.ok.above))).trans e1⟩
    · by_cases hj : j = i
      · subst hj
        rw [hi] at e1; cases e1
        rw [List.getElem?_set_self hiσ] at e2
        cases e2
        exact ⟨u, r, .inl ⟨hk, by simp⟩⟩
      · rw [List.getElem?_set_ne (Ne.symm hj)] at e2
        obtain ⟨u', r', q⟩ := hl j y v' e1 e2 e3
        refine ⟨u', r', ?_⟩
        rcases q with ⟨k, e⟩ | ⟨k, c, e, z⟩
        · refine .inl ⟨k, ?_⟩
          have : y ≠ x := fun e => hj (nodup_ix hN e1 (e ▸ hi))
          simp [this, e]
        · exact .inr ⟨k, c, e, z.sameBut hs (cne y c e)⟩
    · obtain ⟨w', z⟩ := I.cell y c e
      exact ⟨w', z.sameBut hs (cne y c e)⟩
    · obtain ⟨e, n, ne, nf, d⟩ := I.pin p hp
      exact ⟨(hs.2 p.1 ne).trans e, n, ne, nf, d⟩
  · have hfn : X.fn x = true := by
      rcases hf with z | z
      · exact z
      · rw [z] at hk; cases hk
    obtain ⟨c, hc⟩ := I.ok.has x (.inl hk)
    obtain ⟨w', z⟩ := I.cell x c hc
    refine wpAny_storeName_cell I.ok.kind hk hc z (fun h' hc' hs => ?_)
    obtain ⟨oc, hoc, hocd⟩ := id z
    refine h { s with heap := h' } ⟨I.ok, I.os, I.bare, ⟨fun b o e n hb hx => ?_, fun b o e n hb hx => ?_, I.base.free, fun b o e hx => ?_, I.base.tups, I.base.frzs, I.base.tbls⟩, ⟨m, hn.sameBut hs (Ne.symm (cne x c hc)), fun j y v' e1 e2 e3 => ?_⟩, fun y c' e => ?_, I.free, I.freeC, fun p hp => ?_, tracked ⟨oc, hoc, I.freeC x c hc⟩ hs, by simpa using I.len⟩ ⟨c, hs, .inr hc⟩
    · exact (hs.2 b (Nat.ne_of_lt (Nat.lt_of_lt_of_le (Heap.lt_size e) (I.ok.cab x c hfn hc)))).trans (I.base.keep b o e n hb hx)
    · obtain ⟨sl, e1⟩ := I.base.slot b o e n hb hx
      exact ⟨sl, (hs.2 b (Nat.ne_of_lt (Nat.lt_of_lt_of_le (Heap.lt_size e) (I.ok.cab x c hfn hc)))).trans e1⟩
    · obtain ⟨o', e1⟩ := I.base.there b o e hx
      exact ⟨o', (hs.2 b (Nat.ne_of_lt (Nat.lt_of_lt_of_le (Heap.lt_size e) (I.ok.cab x c hfn hc)))).trans e1⟩
    · by_cases hj : j = i
      · subst hj
        rw [hi] at e1; cases e1
        rw [List.getElem?_set_self hiσ] at e2
        cases e2
        exact ⟨u, r, .inr ⟨.inl hk, c, hc, hc'⟩⟩
      · rw [List.getElem?_set_ne (Ne.symm hj)] at e2
        obtain ⟨u', r', q⟩ := hl j y v' e1 e2 e3
        refine ⟨u', r', ?_⟩
        rcases q with q | ⟨k, c', e, z'⟩
        · exact .inl q
        · refine .inr ⟨k, c', e, z'.sameBut hs ?_⟩
          rintro rfl
          exact hj (nodup_ix hN e1 (I.ok.inj _ _ _ e hc ▸ hi))
    · by_cases hcc : c' = c
      · subst hcc; exact ⟨_, hc'⟩
      · obtain ⟨w2, z2⟩ := I.cell y c' e
        exact ⟨w2, z2.sameBut hs hcc⟩
    · obtain ⟨e, n, ne, nf, d⟩ := I.pin p hp
      refine ⟨(hs.2 p.1 ?_).trans e, n, ne, nf, d⟩
      intro q
      rw [q, hoc] at e
      have q' : oc = p.2 := Option.some.inj e
      exact d w' (by rw [← q']; exact hocd)
theorem store_ok {M : Model} {A : Around} {E : Value → Shared → Prop} {i : Nat} {x : Str} {v : V} {u : Value} {Q : Unit → Shared → Prop} (I : Inv X pins σ H s) (hN : X.N.Nodup) (hi : X.N[i]? = some x) (hx : Loc X.env.scope x) (r : RelV v u)
    (h : ∀ s', Inv X pins (σ.set i (some v)) H s' → Q () s') (hf : X.fn x = true ∨ X.env.scope.names.lookup x = some .local := by first | exact .inl rfl | exact .inr rfl | assumption) : wpAny M A (storeName X.env x u) Q E s :=
  store_ok2 I hN hi hx r (fun s' I' _ => h s' I') hf
/-- behind a call or a block, the state as it is -/
theorem Inv.call' {s' : Shared} {ch : List Addr} (I : Inv X pins σ H s) (ho : s'.os = s.os) (u : Un (frs X.stack) ch H H' s.heap s'.heap) (hok : HOk X.prog X.w H' s'.heap) (hg : AllBare s'.gens)
    (hch : ∀ b ∈ ch, (b ∈ X.ex ∨ X.s₀.heap.objs.size ≤ b) ∧ b ≠ X.env.locals ∧ (∀ x c, X.env.cells.lookup x = some c → c ≠ b) ∧ ∀ p ∈ X.pn ++ pins, p.1 ≠ b) : Inv X pins σ H' s' := by
  obtain ⟨h', g', d', t', o'⟩ := s'
  have e : o' = s.os := ho
  subst e
  exact I.call (g' := g') (t' := t') (d' := d') u hok hg hch
end

/-! ### the judgements -/
/-- an exception: its class, its own dict's address (where it has one), the abstract heap behind it -/
abbrev XK := Value → Option Addr → Hp → Prop
abbrev St := List (Option V)
abbrev VK := V → Hp → Prop
/-- an expression's reading; a test's; an argument list's -/
abbrev TE := St → Hp → VK → Prop
abbrev TT := St → Hp → (Bool → Hp → Prop) → Prop
abbrev TA := St → Hp → (List V → Hp → Prop) → Prop
/-- what is wanted behind a statement -/
structure Ends where
  nx : St → Hp → Prop
  rt : VK
  bk : St → Hp → Prop := fun _ _ => False
  ct : St → Hp → Prop := fun _ _ => False
abbrev TS := Ends → St → Hp → Prop

def EP (X : Cx) (pins : List (Addr × Obj)) (σ : St) (Q : VK) (u : Value) (s' : Shared) : Prop := ∃ v H', Inv X pins σ H' s' ∧ RelV v u ∧ Q v H'
def TP (X : Cx) (pins : List (Addr × Obj)) (σ : St) (Q : Bool → Hp → Prop) (b : Bool) (s' : Shared) : Prop := ∃ H', Inv X pins σ H' s' ∧ Q b H'
def AP (X : Cx) (pins : List (Addr × Obj)) (σ : St) (Q : List V → Hp → Prop) (us : List Value) (s' : Shared) : Prop := ∃ vs H', Inv X pins σ H' s' ∧ Vals vs us ∧ Q vs H'
def SP (X : Cx) (pins : List (Addr × Obj)) (D : Ends) (f : Flow) (s' : Shared) : Prop :=
  match f with
  | .next => ∃ σ' H', Inv X pins σ' H' s' ∧ D.nx σ' H'
  | .brk => ∃ σ' H', Inv X pins σ' H' s' ∧ D.bk σ' H'
  | .cont => ∃ σ' H', Inv X pins σ' H' s' ∧ D.ct σ' H'
  | .ret u => ∃ v σ' H', Inv X pins σ' H' s' ∧ RelV v u ∧ D.rt v H'

def PE (X : Cx) (e : Expr) (t : TE) : Prop :=
  ∀ (pins : List (Addr × Obj)) (s : Shared) (σ : St) (H : Hp) (Q : VK), Inv X pins σ H s → t σ H Q → wpAny (model X.prog X.w) X.A (eval e X.env) (EP X pins σ Q) X.xe s
def PT (X : Cx) (e : Expr) (t : TT) : Prop :=
  ∀ (pins : List (Addr × Obj)) (s : Shared) (σ : St) (H : Hp) (Q : Bool → Hp → Prop), Inv X pins σ H s → t σ H Q → wpAny (model X.prog X.w) X.A (isTrue e X.env (eval e X.env)) (TP X pins σ Q) X.xe s
/-- a test whatever its 'whole' is (and, or) -/
def PW (X : Cx) (e : Expr) (t : TT) : Prop :=
  ∀ (whole : Sem Value) (pins : List (Addr × Obj)) (s : Shared) (σ : St) (H : Hp) (Q : Bool → Hp → Prop), Inv X pins σ H s → t σ H Q → wpAny (model X.prog X.w) X.A (isTrue e X.env whole) (TP X pins σ Q) X.xe s
theorem PW.pt {X : Cx} {e : Expr} {t : TT} (h : PW X e t) : PT X e t := h _
/-- an argument list (no star), from the left -/
def PA (X : Cx) (es : List Expr) (t : TA) : Prop :=
  ∀ (pos : Pos) (pins : List (Addr × Obj)) (s : Shared) (σ : St) (H : Hp) (Q : List V → Hp → Prop), Inv X pins σ H s → t σ H Q → wpAny (model X.prog X.w) X.A (spliced (backTo pos (starEach es X.env))) (AP X pins σ Q) X.xe s
def PS (X : Cx) (st : Stmt) (t : TS) : Prop :=
  ∀ (pins : List (Addr × Obj)) (s : Shared) (σ : St) (H : Hp) (D : Ends), Inv X pins σ H s → t D σ H → wpAny (model X.prog X.w) X.A (exec st X.env) (SP X pins D) X.xe s
def PSs (X : Cx) (st : List Stmt) (t : TS) : Prop :=
  ∀ (pins : List (Addr × Obj)) (s : Shared) (σ : St) (H : Hp) (D : Ends), Inv X pins σ H s → t D σ H → wpAny (model X.prog X.w) X.A (execs st X.env) (SP X pins D) X.xe s
/-- weaken the end -/
theorem thn {α : Type} {t : Sem α} {Q Q' : α → Shared → Prop} {M : Model} {A : Around} {E : Value → Shared → Prop} {s : Shared} (h : wpAny M A t Q E s) (hQ : ∀ a s, Q a s → Q' a s) : wpAny M A t Q' E s := wpAny_mono h hQ fun _ _ x => x
end L2

namespace L2
open PySem PySem.Spec PyProof.Rows
section
variable {X : Cx}

/-! ### names and constants -/
def tVar (i : Nat) : TE := fun σ H Q => ∃ v, σ[i]? = some (some v) ∧ Q v H
def tC (v : V) : TE := fun _ H Q => Q v H
theorem pe_var {i : Nat} {x : Str} {pos : Pos} (hN : X.N[i]? = some x) (hv : Vis X.env.scope x) (hd : (x == ("__debug__" : Str)) = false := by decide) (hcd : (x == ("__classdict__" : Str)) = false := by decide) : PE X (.Name x pos) (tVar i) := by
  intro pins s σ H Q I h
  obtain ⟨v, e, h⟩ := h
  obtain ⟨m, hn, hl⟩ := I.loc
  obtain ⟨u, r, l⟩ := hl i x v hN e hv
  have fin : EP X pins σ Q u s := ⟨v, H, I, r, h⟩
  rcases l with ⟨hk, hm⟩ | ⟨hk, c, hc, hcell⟩
  · exact wpAny_Name (wpAny_loadName_local I.ok.kind hk hn hm fin) hd
  · rcases hk with hk | hk
    · exact wpAny_Name (wpAny_loadName_cell I.ok.kind hk hc hcell fin) hd
    · exact wpAny_Name (wpAny_loadName_free I.ok.kind hk hc hcell fin hcd) hd
theorem pe_int {i j pos} : PE X (.Constant (.int i) j pos) (tC (.int i)) := fun _ _ _ H _ I h => wpAny_Constant_int ⟨.int i, H, I.tok _, ⟨_, rfl⟩, h⟩
theorem pe_bl {b j pos} : PE X (.Constant (.bool b) j pos) (tC (.bl b)) := fun _ _ _ H _ I h => Constant_bool ⟨.bl b, H, I, rfl, h⟩
theorem pe_str {x j pos} : PE X (.Constant (.str x) j pos) (tC (.str x)) := fun _ _ _ H _ I h => Calls.Constant_str ⟨.str x, H, I.tok _, ⟨_, rfl⟩, h⟩

/-- a global name of the def -/
def Gl (X : Cx) (x : Str) : Prop := X.env.kindOf x = some .globalImplicit
theorem ld_glob {E : Value → Shared → Prop} {pins : List (Addr × Obj)} {s : Shared} {σ : St} {H : Hp} {x : Str} {u : Value} {pos : Pos} {Q : Value → Shared → Prop} (I : Inv X pins σ H s) (hg : Gl X x) (hm : X.mg x = some u) (h : Q u s)
    (hd : (x == ("__debug__" : Str)) = false := by decide) : wpAny (model X.prog X.w) X.A (eval (.Name x pos) X.env) Q E s :=
  Calls.Name_function_global I.ok.kind hg (Calls.loadGlobal_global (by rw [I.ok.glob]; exact I.mod.glob.keeps I.bk) hm h) hd
theorem ld_blt {E : Value → Shared → Prop} {pins : List (Addr × Obj)} {s : Shared} {σ : St} {H : Hp} {x : Str} {u : Value} {pos : Pos} {Q : Value → Shared → Prop} (I : Inv X pins σ H s) (hg : Gl X x) (hm : X.mg x = none) (hv : bootBuiltins x = some u) (h : Q u s)
    (hn : x ≠ "__name__" := by decide) (hd : (x == ("__debug__" : Str)) = false := by decide) : wpAny (model X.prog X.w) X.A (eval (.Name x pos) X.env) Q E s := by
  obtain ⟨mb, h1, h2⟩ := I.mod.blt
  exact Calls.Name_function_global I.ok.kind hg (Calls.loadGlobal_builtin (by rw [I.ok.glob]; exact I.mod.glob.keeps I.bk) hm (by rw [I.ok.blt]; exact h1.keeps I.bk) ((h2 x hn).trans hv) h) hd
theorem pe_bltn {x : Str} {v : V} {u : Value} {pos : Pos} (hg : Gl X x) (hm : X.mg x = none) (hv : bootBuiltins x = some u) (r : RelV v u) (hn : x ≠ "__name__" := by decide) (hd : (x == ("__debug__" : Str)) = false := by decide) : PE X (.Name x pos) (tC v) :=
  fun _ _ _ H _ I h => ld_blt I hg hm hv ⟨v, H, I, r, h⟩ hn hd

/-! ### arithmetic -/
/-- two ints -/
def t2I (ta tb : TE) (k : Int → Int → Hp → Prop) : St → Hp → Prop := fun σ H => ta σ H fun x H1 => tb σ H1 fun y H2 => ∃ i j, x = .int i ∧ y = .int j ∧ k i j H2
def tAdd (ta tb : TE) : TE := fun σ H Q => t2I ta tb (fun i j H2 => Q (.int (i + j)) H2) σ H
def tSub (ta tb : TE) : TE := fun σ H Q => t2I ta tb (fun i j H2 => Q (.int (i - j)) H2) σ H
/-- the left factor below 2^64 -/
def tMul (ta tb : TE) : TE := fun σ H Q => t2I ta tb (fun i j H2 => (-(2 ^ 64) < i ∧ i < 2 ^ 64) ∧ Q (.int (i * j)) H2) σ H
variable {a b : Expr} {ta tb : TE} {pos : Pos}
/-! ### comparisons -/
def PC (X : Cx) (op : CmpOp) (a b : Expr) (t : TE) : Prop :=
  ∀ (pins : List (Addr × Obj)) (s : Shared) (σ : St) (H : Hp) (Q : VK), Inv X pins σ H s → t σ H Q →
    wpAny (model X.prog X.w) X.A (eval a X.env) (fun v s₁ => wpAny (model X.prog X.w) X.A (eval b X.env) (fun u s₂ => wpAny (model X.prog X.w) X.A (compareOp op v u) (EP X pins σ Q) X.xe s₂) X.xe s₁) X.xe s
def tCmp (p : Int → Int → Bool) (ta tb : TE) : TE := fun σ H Q => t2I ta tb (fun i j H2 => Q (.bl (p i j)) H2) σ H
abbrev tLt : TE → TE → TE := tCmp fun i j => decide (i < j)
abbrev tLe : TE → TE → TE := tCmp fun i j => decide (i ≤ j)
abbrev tGt : TE → TE → TE := tCmp fun i j => decide (j < i)
abbrev tGe : TE → TE → TE := tCmp fun i j => decide (j ≤ i)
abbrev tEqI : TE → TE → TE := tCmp fun i j => decide (i = j)
abbrev tNeI : TE → TE → TE := tCmp fun i j => !decide (i = j)
/-- is None -/
def tIsN (ta : TE) : TE := fun σ H Q => ta σ H fun x H1 => Q (.bl (decide (x = .non))) H1
def tNotN (ta : TE) : TE := fun σ H Q => ta σ H fun x H1 => Q (.bl (!decide (x = .non))) H1
/-- a comparison as a value, as a test -/
def tB (t : TE) : TT := fun σ H Q => t σ H fun x H1 => ∃ c, x = .bl c ∧ Q c H1
/-- an expression whose value is a bool, as a test -/
theorem pt_val {e : Expr} {t : TE} (h : PE X e t) (he : ∀ whole, isTrue e X.env whole = (do let v ← whole; standAt e.pos; holding [v] (truthy v)) := by intro _; rfl) : PT X e (tB t) := by
  intro pins s σ H Q I hw
  refine isTrue_plain (thn (h pins s σ H _ I hw) fun v s1 ⟨x, H1, I1, r1, q1⟩ => ?_) (he _)
  obtain ⟨d, rfl, q⟩ := q1
  cases r1
  exact wpAny_truthy_bool ⟨H1, I1, q⟩

/-! ### and, or, not -/
variable {tA tB' : TT} {rest : List Expr}
def tAnd (t u : TT) : TT := fun σ H Q => t σ H fun c H1 => if c = true then u σ H1 Q else Q false H1
def tOr (t u : TT) : TT := fun σ H Q => t σ H fun c H1 => if c = true then Q true H1 else u σ H1 Q
def tNot (t : TT) : TT := fun σ H Q => t σ H fun c H1 => Q (!c) H1
theorem pw_and1 (ha : PT X a tA) : PW X (.BoolOp .And [a] pos) tA := by
  intro wh pins s σ H Q I h
  refine isTrue_and (thn (ha pins s σ H Q I h) fun c s1 e => ?_)
  cases c with
  | true => exact isTrue_and_nil e
  | false => exact e
theorem pw_or1 (ha : PT X a tA) : PW X (.BoolOp .Or [a] pos) tA := by
  intro wh pins s σ H Q I h
  refine isTrue_or (thn (ha pins s σ H Q I h) fun c s1 e => ?_)
  cases c with
  | false => exact isTrue_or_nil e
  | true => exact e
theorem pw_and (ha : PT X a tA) (hb : PW X (.BoolOp .And (b :: rest) pos) tB') : PW X (.BoolOp .And (a :: b :: rest) pos) (tAnd tA tB') := by
  intro wh pins s σ H Q I h
  refine isTrue_and (thn (ha pins s σ H _ I h) fun c s1 ⟨H1, I1, q1⟩ => ?_)
  cases c with
  | true => exact hb wh pins s1 σ H1 Q I1 q1
  | false => exact ⟨H1, I1, q1⟩
theorem pw_or (ha : PT X a tA) (hb : PW X (.BoolOp .Or (b :: rest) pos) tB') : PW X (.BoolOp .Or (a :: b :: rest) pos) (tOr tA tB') := by
  intro wh pins s σ H Q I h
  refine isTrue_or (thn (ha pins s σ H _ I h) fun c s1 ⟨H1, I1, q1⟩ => ?_)
  cases c with
  | true => exact ⟨H1, I1, q1⟩
  | false => exact hb wh pins s1 σ H1 Q I1 q1
theorem pt_not (ha : PT X a tA) : PT X (.UnaryOp .Not a pos) (tNot tA) := by
  intro pins s σ H Q I h
  exact isTrue_not (ha pins s σ H (fun c H1 => Q (!c) H1) I h)
/-- .. as values (bools) -/
def tAndV (ta tb : TE) : TE := fun σ H Q => ta σ H fun x H1 => ∃ c, x = .bl c ∧ if c = true then tb σ H1 Q else Q (.bl false) H1
def tOrV (ta tb : TE) : TE := fun σ H Q => ta σ H fun x H1 => ∃ c, x = .bl c ∧ if c = true then Q (.bl true) H1 else tb σ H1 Q
def tNotV (ta : TE) : TE := fun σ H Q => ta σ H fun x H1 => ∃ c, x = .bl c ∧ Q (.bl (!c)) H1
theorem pe_one {op} {t : TE} (h : PE X a t) : PE X (.BoolOp op [a] pos) t := fun pins s σ H Q I hw => BoolOp_one (h pins s σ H Q I hw)
theorem pe_and (ha : PE X a ta) (hb : PE X (.BoolOp .And (b :: rest) pos) tb) : PE X (.BoolOp .And (a :: b :: rest) pos) (tAndV ta tb) := by
  intro pins s σ H Q I h
  refine BoolOp_and (thn (ha pins s σ H _ I h) fun v s1 ⟨x, H1, I1, r1, q1⟩ => ?_)
  obtain ⟨c, rfl, q1⟩ := q1
  cases r1
  refine wpAny_truthy_bool ?_
  cases c with
  | true => exact hb pins s1 σ H1 Q I1 q1
  | false => exact ⟨.bl false, H1, I1, rfl, q1⟩
theorem pe_not (ha : PE X a ta) : PE X (.UnaryOp .Not a pos) (tNotV ta) := by
  intro pins s σ H Q I h
  refine UnaryOp_ (thn (ha pins s σ H _ I h) fun v s1 ⟨x, H1, I1, r1, q1⟩ => ?_)
  obtain ⟨c, rfl, q1⟩ := q1
  cases r1
  exact not_of (wpAny_truthy_bool ⟨.bl (!c), H1, I1, rfl, q1⟩)
/-- a if t else b -/
def tIf (t : TT) (ta tb : TE) : TE := fun σ H Q => t σ H fun c H1 => if c = true then ta σ H1 Q else tb σ H1 Q
theorem pe_ifExp {c : Expr} (hc : PT X c tA) (ha : PE X a ta) (hb : PE X b tb) : PE X (.IfExp c a b pos) (tIf tA ta tb) := by
  intro pins s σ H Q I h
  refine wpAny_IfExp (thn (hc pins s σ H _ I h) fun d s1 ⟨H1, I1, q1⟩ => ?_)
  cases d with
  | true => exact ha pins s1 σ H1 Q I1 q1
  | false => exact hb pins s1 σ H1 Q I1 q1
end
end L2

namespace L2
open PySem PySem.Spec PyProof.Rows

/-! ### a list, a tuple that is read: tracked, frozen, or an object of the module -/
def SqL (K : PySem.W.Frag) (H : Hp) (a : Addr) (xs : List V) : Prop :=
  Rd H a (.lst xs) ∨
    ∃ (o : Obj) (its : Array Value) (n : Nat), K.lookup a = some o ∧ o.cls = .type "list" ∧ o.dict = none ∧ o.data = .seq its n ∧ its.size ≤ sizeLine ∧ Vals xs its.toList
def SqT (K : PySem.W.Frag) (H : Hp) (a : Addr) (xs : List V) : Prop :=
  Rd H a (.tup xs) ∨
    ∃ (o : Obj) (its : Array Value) (n : Nat), K.lookup a = some o ∧ o.cls = .type "tuple" ∧ o.data = .seq its n ∧ its.size ≤ sizeLine ∧ Vals xs its.toList
def absV : Value → Option V
  | .none => some .non
  | .bool b => some (.bl b)
  | .int i _ => some (.int i)
  | .str x _ => some (.str x)
  | .bytes b _ => some (.byt b)
  | .float b _ => some (.flt b)
  | .ref a => some (.ref a)
  | .type n => some (.ty n)
  | _ => none
theorem RelV.abs {x : V} {u : Value} (r : RelV x u) : absV u = some x := by
  cases x with
  | non => cases r; rfl
  | bl _ => cases r; rfl
  | int _ => obtain ⟨t, rfl⟩ := r; rfl
  | str _ => obtain ⟨t, rfl⟩ := r; rfl
  | byt _ => obtain ⟨t, rfl⟩ := r; rfl
  | flt _ => obtain ⟨t, rfl⟩ := r; rfl
  | ref _ => cases r; rfl
  | ty _ => cases r; rfl
theorem RelV.inj {x y : V} {u : Value} (r : RelV x u) (q : RelV y u) : x = y := Option.some.inj (r.abs.symm.trans q.abs)
theorem Vals.inj : ∀ {xs ys : List V} {us : List Value}, Vals xs us → Vals ys us → xs = ys
  | _, _, _, .nil, .nil => rfl
  | _, _, _, .cons r t, .cons r' t' => by rw [r.inj r', Vals.inj t t']
section
variable {X : Cx} {pins : List (Addr × Obj)} {σ : St} {H : Hp} {s : Shared} {a : Addr} {xs ys : List V}
theorem SqL.of {K : PySem.W.Frag} (h : H a = some (.lst xs)) : SqL K H a xs := .inl (.inl h)
theorem SqT.of {K : PySem.W.Frag} (h : H a = some (.tup xs)) : SqT K H a xs := .inl (.inl h)
theorem Inv.list (I : Inv X pins σ H s) (h : SqL X.K H a xs) : ∃ its : List Value, Vals xs its ∧ PlainL s.heap a its.toArray ∧ xs.length ≤ sizeLine := by
  rcases h with h | ⟨o, its, n, hk, hc, hd, hs, hz, r⟩
  · obtain ⟨z, its, n, r, e⟩ := h.ok I.hok
    exact ⟨its, r, ⟨_, n, e, rfl, rfl, rfl⟩, z⟩
  · refine ⟨its.toList, r, ⟨o, n, I.kIn a o hk, hc, hd, by simpa using hs⟩, ?_⟩
    have e := r.length
    simp only [Array.length_toList] at e
    omega
theorem Inv.tuple (I : Inv X pins σ H s) (h : SqT X.K H a xs) : ∃ its : List Value, Vals xs its ∧ IsTup s.heap a its.toArray ∧ xs.length ≤ sizeLine := by
  rcases h with h | ⟨o, its, n, hk, hc, hs, hz, r⟩
  · obtain ⟨z, its, r, p⟩ := h.ok I.hok
    exact ⟨its, r, p, z⟩
  · refine ⟨its.toList, r, ⟨o, I.kIn a o hk, hc, n, by simpa using hs⟩, ?_⟩
    have e := r.length
    simp only [Array.length_toList] at e
    omega
theorem Inv.list_inj (I : Inv X pins σ H s) (h : SqL X.K H a xs) (h' : SqL X.K H a ys) : xs = ys := by
  obtain ⟨its, r, ⟨o, n, e, _, _, d⟩, _⟩ := I.list h
  obtain ⟨its', r', ⟨o', n', e', _, _, d'⟩, _⟩ := I.list h'
  rw [e] at e'; cases e'
  rw [d] at d'
  injection d' with d1 _
  have : its = its' := by simpa using congrArg Array.toList d1
  subst this
  exact r.inj r'
end

/-! ### another wish about exceptions -/
abbrev Cx.wish (X : Cx) (E : Value → Shared → Prop) : Cx := { X with xe := E }
/-- no exception leaves -/
abbrev Cx.nox (X : Cx) : Cx := X.wish fun _ _ => False
theorem Cx.Ok.wish {X : Cx} (ok : X.Ok) (E : Value → Shared → Prop) : (X.wish E).Ok :=
  ⟨ok.mod, ok.kind, ok.glob, ok.blt, ok.above, ok.inj, ok.has, ok.cab, ok.hd, ok.frames, ok.stk, ok.exf, ok.bs, ok.bsz, ok.noex, ok.exfs, ok.funs, ok.frf⟩
theorem Cx.Ok.unwish {X : Cx} {E : Value → Shared → Prop} (ok : (X.wish E).Ok) : X.Ok :=
  ⟨ok.mod, ok.kind, ok.glob, ok.blt, ok.above, ok.inj, ok.has, ok.cab, ok.hd, ok.frames, ok.stk, ok.exf, ok.bs, ok.bsz, ok.noex, ok.exfs, ok.funs, ok.frf⟩
section
variable {X : Cx} {pins : List (Addr × Obj)} {σ : St} {H : Hp} {s : Shared} {E : Value → Shared → Prop}
theorem Inv.wish (I : Inv X pins σ H s) (E : Value → Shared → Prop) : Inv (X.wish E) pins σ H s := ⟨I.ok.wish E, I.os, I.bare, I.base, I.loc, I.cell, I.free, I.freeC, I.pin, I.hok, I.len⟩
theorem Inv.unwish (I : Inv (X.wish E) pins σ H s) : Inv X pins σ H s := ⟨I.ok.unwish, I.os, I.bare, I.base, I.loc, I.cell, I.free, I.freeC, I.pin, I.hok, I.len⟩
theorem SP.unwish {D : Ends} {f : Flow} {s' : Shared} (h : SP (X.wish E) pins D f s') : SP X pins D f s' := by
  cases f with
  | next => obtain ⟨σ', H', I, q⟩ := h; exact ⟨σ', H', I.unwish, q⟩
  | brk => obtain ⟨σ', H', I, q⟩ := h; exact ⟨σ', H', I.unwish, q⟩
  | cont => obtain ⟨σ', H', I, q⟩ := h; exact ⟨σ', H', I.unwish, q⟩
  | ret u => obtain ⟨v, σ', H', I, r, q⟩ := h; exact ⟨v, σ', H', I.unwish, r, q⟩
theorem PSs.nox {st : List Stmt} {t : TS} (h : PSs X.nox st t) : PSs X st t := fun pins s σ H D I hw =>
  wpAny_mono (h pins s σ H D (I.wish _) hw) (fun _ _ q => q.unwish) fun _ _ z => False.elim z
end

/-! ### blocks and small statements -/
section
variable {X : Cx} {st : Stmt} {rest : List Stmt} {t u : TS} {e : Expr} {te : TE} {pos : Pos}
def tNext : TS := fun D σ H => D.nx σ H
def tSeq (t u : TS) : TS := fun D σ H => t { D with nx := u D } σ H
theorem pss_nil : PSs X [] tNext := fun _ _ σ H _ I h => wpAny_execs_nil ⟨σ, H, I, h⟩
theorem pss_cons (h1 : PS X st t) (h2 : PSs X rest u) : PSs X (st :: rest) (tSeq t u) := by
  intro pins s σ H D I h
  refine wpAny_execs_cons (thn (h1 pins s σ H { D with nx := u D } I h) fun f s1 q => ?_)
  cases f with
  | next =>
    obtain ⟨σ', H', I', q⟩ := q
    exact h2 pins s1 σ' H' D I' q
  | ret v => exact q
  | brk => exact q
  | cont => exact q
theorem pss_one (h1 : PS X st t) : PSs X [st] t := by
  intro pins s σ H D I h
  refine wpAny_execs_cons (thn (h1 pins s σ H D I h) fun f s1 q => ?_)
  cases f with
  | next => exact wpAny_execs_nil q
  | ret v => exact q
  | brk => exact q
  | cont => exact q
def tBreak : TS := fun D σ H => D.bk σ H
def tCont : TS := fun D σ H => D.ct σ H
/-- in a def's body nothing is shown -/
theorem Inv.quiet {pins : List (Addr × Obj)} {σ : St} {H : Hp} {s : Shared} (I : Inv X pins σ H s) : interactive X.env = false := by simp [interactive, I.ok.kind]
/-- an expression whose value is dropped -/
def tDrop (te : TE) : TS := fun D σ H => te σ H fun _ H1 => D.nx σ H1
theorem ps_expr (he : PE X e te) (hs : swapsWith e none pos.line X.env = pure false := by rfl) : PS X (.Expr e pos) (tDrop te) := by
  intro pins s σ H D I h
  exact wpAny_Expr_any (thn (he pins s σ H _ I h) fun v s1 ⟨x, H1, I1, r1, q1⟩ => ⟨σ, H1, I1, q1⟩) I.quiet hs
def tRet (te : TE) : TS := fun D σ H => te σ H D.rt
theorem ps_ret (he : PE X e te) : PS X (.Return (some e) pos) (tRet te) := by
  intro pins s σ H D I h
  exact wpAny_Return_some (thn (he pins s σ H _ I h) fun v s1 ⟨x, H1, I1, r1, q1⟩ => ⟨x, σ, H1, I1, r1, q1⟩)
def tRetN : TS := fun D _ H => D.rt .non H
def tIfS (c : TT) (t u : TS) : TS := fun D σ H => c σ H fun b H1 => if b = true then t D σ H1 else u D σ H1
theorem ps_if {c : Expr} {a b : List Stmt} {tc : TT} (hc : PT X c tc) (ha : PSs X a t) (hb : PSs X b u) : PS X (.If c a b pos) (tIfS tc t u) := by
  intro pins s σ H D I h
  refine wpAny_If (thn (hc pins s σ H _ I h) fun d s1 ⟨H1, I1, q1⟩ => ?_)
  cases d with
  | true => exact ha pins s1 σ H1 D I1 q1
  | false => exact hb pins s1 σ H1 D I1 q1
/-- code that the proof never comes to -/
def tNever : TS := fun _ _ _ => False
end

/-! ### targets -/
abbrev TG := V → St → Hp → (St → Hp → Prop) → Prop
abbrev TGs := List V → St → Hp → (St → Hp → Prop) → Prop
def PG (X : Cx) (target : Expr) (t : TG) : Prop :=
  ∀ (pins : List (Addr × Obj)) (s : Shared) (σ : St) (H : Hp) (v : V) (u : Value) (Q : St → Hp → Prop), Inv X pins σ H s → RelV v u → t v σ H Q →
    wpAny (model X.prog X.w) X.A (assign target X.env u) (fun _ s' => ∃ σ' H', Inv X pins σ' H' s' ∧ Q σ' H') X.xe s
/-- several targets, one after another -/
def PGs (X : Cx) (ts : List Expr) (t : TGs) : Prop :=
  ∀ (pins : List (Addr × Obj)) (s : Shared) (σ : St) (H : Hp) (vs : List V) (us : List Value) (Q : St → Hp → Prop), Inv X pins σ H s → Vals vs us → t vs σ H Q →
    wpAny (model X.prog X.w) X.A (assignInOrder ((assignEach ts X.env).map (·.2)) us) (fun _ s' => ∃ σ' H', Inv X pins σ' H' s' ∧ Q σ' H') X.xe s
/-- o[i] = v, by values -/
abbrev TSet := V → V → V → Hp → (Hp → Prop) → Prop
def PSet (X : Cx) (t : TSet) : Prop :=
  ∀ (pins : List (Addr × Obj)) (s : Shared) (σ : St) (H : Hp) (o i v : V) (ov iv u : Value) (Q : Hp → Prop), Inv X pins σ H s → RelV o ov → RelV i iv → RelV v u → t o i v H Q →
    wpAny (model X.prog X.w) X.A (setItem ov iv u) (fun _ s' => ∃ H', Inv X pins σ H' s' ∧ Q H') X.xe s
/-- a op= b, by values -/
abbrev TIp := V → V → Hp → VK → Prop
def PIp (X : Cx) (op : Operator) (t : TIp) : Prop :=
  ∀ (pins : List (Addr × Obj)) (s : Shared) (σ : St) (H : Hp) (x y : V) (v u : Value) (Q : VK), Inv X pins σ H s → RelV x v → RelV y u → t x y H Q →
    wpAny (model X.prog X.w) X.A (inplaceOp op v u) (EP X pins σ Q) X.xe s
section
variable {X : Cx} {pos : Pos}
def gName (i : Nat) : TG := fun v σ H Q => Q (σ.set i (some v)) H
theorem pg_name {i : Nat} {x : Str} (hN : X.N.Nodup) (hi : X.N[i]? = some x) (hx : Loc X.env.scope x) (hf : X.fn x = true ∨ X.env.scope.names.lookup x = some .local := by first | exact .inl rfl | exact .inr rfl | assumption) : PG X (.Name x pos) (gName i) := by
  intro pins s σ H v u Q I r h
  exact wpAny_assign_Name (store_ok I hN hi hx r (fun s' I' => ⟨_, H, I', h⟩) hf)
def gNil : TGs := fun vs σ H Q => vs = [] ∧ Q σ H
def gCons (t : TG) (u : TGs) : TGs := fun vs σ H Q => ∃ v r, vs = v :: r ∧ t v σ H fun σ' H' => u r σ' H' Q
theorem pgs_nil : PGs X [] gNil := by
  intro pins s σ H vs us Q I r h
  obtain ⟨e, h⟩ := h
  subst e
  cases r
  exact assignInOrder_nil ⟨σ, H, I, h⟩
theorem pgs_cons {e : Expr} {es : List Expr} {t : TG} {u : TGs} (h1 : PG X e t) (h2 : PGs X es u)
    (hs : (assignEach (e :: es) X.env).map (·.2) = assign e X.env :: (assignEach es X.env).map (·.2) := by rfl) : PGs X (e :: es) (gCons t u) := by
  intro pins s σ H vs us Q I r h
  obtain ⟨v, vr, e1, h⟩ := h
  subst e1
  cases r with
  | cons r rr =>
    rw [hs]
    refine assignInOrder_cons (thn (h1 pins s σ H _ _ _ I r h) fun _ s1 ⟨σ1, H1, I1, q1⟩ => ?_)
    exact h2 pins s1 σ1 H1 _ _ Q I1 rr q1
/-- (a, b, ..) = a tuple of that length -/
def gTup (K : PySem.W.Frag) (n : Nat) (t : TGs) : TG := fun v σ H Q => ∃ a xs, v = .ref a ∧ SqT K H a xs ∧ xs.length = n ∧ t xs σ H Q
theorem pg_tup {es : List Expr} {k : Nat} {t : TGs} {n : Nat} (hc : X.calm = true) (h : PGs X es t)
    (hn : (assignEach es X.env).length = n := by rfl) (hst : (assignEach es X.env).findIdx? (·.1) = none := by rfl) : PG X (.Tuple es k pos) (gTup X.K n t) := by
  intro pins s σ H v u Q I r hw
  obtain ⟨a, xs, e1, hq, hl, hw⟩ := hw
  subst e1
  cases r
  obtain ⟨its, rv, ht, hz⟩ := I.tuple hq
  refine assign_Tuple_tuple (I.ok.hd hc) ht (by simp [hn, ← hl, rv.length]) hst fun h' hx => ?_
  have I1 : Inv X pins σ H { s with heap := h' } := I.kept (t' := s.toks) fun b o e => hx b o (Nat.ne_of_lt (Heap.lt_size e)) e
  exact h pins _ σ H xs _ Q I1 (by simpa using rv) hw
/-- o[i] = .. -/
def gSub (to ti : TE) (t : TSet) : TG := fun v σ H Q => to σ H fun o H1 => ti σ H1 fun i H2 => t o i v H2 fun H3 => Q σ H3
theorem pg_sub {o i : Expr} {to ti : TE} {t : TSet} (ho : PE X o to) (hi : PE X i ti) (hs : PSet X t)
    (ha : ∀ v, assign (.Subscript o i pos) X.env v = (do
      let ov ← holding [v] (eval o X.env)
      let iv ← holding [v, ov] (eval i X.env)
      standAt pos
      holding [v, ov, iv] (setItem ov iv v)
      release [v, ov, iv] []) := by intro _; rfl) : PG X (.Subscript o i pos) (gSub to ti t) := by
  intro pins s σ H v u Q I r h
  rw [ha]
  refine wpAny_bind (wpAny_holding (thn (ho pins s σ H _ I h) fun ov s1 ⟨x, H1, I1, r1, q1⟩ => ?_))
  refine wpAny_bind (wpAny_holding (thn (hi pins s1 σ H1 _ I1 q1) fun iv s2 ⟨y, H2, I2, r2, q2⟩ => ?_))
  refine wpAny_bind (wpAny_standAt (wpAny_bind (wpAny_holding (thn (hs pins s2 σ H2 x y v ov iv u _ I2 r1 r2 r q2) fun _ s3 ⟨H3, I3, q3⟩ => ?_))))
  exact wpAny_release ⟨σ, H3, I3, q3⟩
/-- target = value -/
def tAsg (te : TE) (g : TG) : TS := fun D σ H => te σ H fun x H1 => g x σ H1 D.nx
theorem ps_asg {tg e : Expr} {te : TE} {g : TG} (he : PE X e te) (hg : PG X tg g) (hs : swapsWithSole [tg] e pos.line X.env = pure false := by rfl) (hw : swappedStores [tg] e X.env = pure none := by rfl)
    (h1 : (assignEach [tg] X.env).map (·.2) = [assign tg X.env] := by rfl) : PS X (.Assign [tg] e pos) (tAsg te g) := by
  intro pins s σ H D I h
  refine wpAny_Assign_stores (thn (he pins s σ H _ I h) fun v s1 ⟨x, H1, I1, r1, q1⟩ => ?_) hs hw
  rw [h1]
  exact thn (hg pins s1 σ H1 x v _ I1 r1 q1) fun _ s2 q => q
/-- name = value -/
theorem ps_set {i : Nat} {x : Str} {e : Expr} {te : TE} {pos' : Pos} (hN : X.N.Nodup) (hi : X.N[i]? = some x) (hx : Loc X.env.scope x) (he : PE X e te) (hs : swapsWith e (some (.Name x pos')) pos.line X.env = pure false := by rfl) (hf : X.fn x = true ∨ X.env.scope.names.lookup x = some .local := by first | exact .inl rfl | exact .inr rfl | assumption) :
    PS X (.Assign [.Name x pos'] e pos) (tAsg te (gName i)) := by
  intro pins s σ H D I h
  refine wpAny_Assign_Name (thn (he pins s σ H _ I h) fun v s1 ⟨y, H1, I1, r1, q1⟩ => ?_) hs
  exact store_ok I1 hN hi hx r1 (fun s2 I2 => ⟨_, H1, I2, q1⟩) hf
/-- a, b = x, y with plain local names: stored from the right; the pair itself is not tracked (the opening rows as in PyProof/Rows/TupAssign.lean:23) -/
def tPar (i j : Nat) (ta : TA) : TS := fun D σ H => ta σ H fun vs H1 => ∃ v w, vs = [v, w] ∧ D.nx ((σ.set i (some v)).set j (some w)) H1
/-- name op= e -/
def tAug (i : Nat) (te : TE) (ti : TIp) : TS := fun D σ H => ∃ x, σ[i]? = some (some x) ∧ te σ H fun y H1 => ti x y H1 fun z H2 => D.nx (σ.set i (some z)) H2
theorem ps_aug {i : Nat} {x : Str} {e : Expr} {te : TE} {op : Operator} {ti : TIp} {pos' : Pos} (hN : X.N.Nodup) (hi : X.N[i]? = some x) (hx : Loc X.env.scope x) (he : PE X e te) (ho : PIp X op ti) (hf : X.fn x = true ∨ X.env.scope.names.lookup x = some .local := by first | exact .inl rfl | exact .inr rfl | assumption) :
    PS X (.AugAssign (.Name x pos') op e pos) (tAug i te ti) := by
  intro pins s σ H D I h
  obtain ⟨v, e1, h⟩ := h
  obtain ⟨m, hn, hl⟩ := I.loc
  have vis : Vis X.env.scope x := by rcases hx with k | k; exact .inl k; exact .inr (.inl k)
  obtain ⟨u, r, l⟩ := hl i x v hi e1 vis
  refine wpAny_AugAssign_Name ?_
  have go : wpAny (model X.prog X.w) X.A (eval e X.env) (fun w s₂ => wpAny (model X.prog X.w) X.A (inplaceOp op u w) (fun r s₃ => wpAny (model X.prog X.w) X.A (storeName X.env x r) (fun _ => SP X pins D .next) X.xe s₃) X.xe s₂) X.xe s := by
    refine thn (he pins s σ H _ I h) fun w s1 ⟨y, H1, I1, r1, q1⟩ => ?_
    refine thn (ho pins s1 σ H1 v y u w _ I1 r r1 q1) fun z s2 ⟨zv, H2, I2, r2, q2⟩ => ?_
    exact store_ok I2 hN hi hx r2 (fun s3 I3 => ⟨_, H2, I3, q2⟩) hf
  rcases l with ⟨hk, hm⟩ | ⟨hk, c, hc, hcell⟩
  · exact wpAny_loadName_local I.ok.kind hk hn hm go
  · rcases hk with hk | hk
    · exact wpAny_loadName_cell I.ok.kind hk hc hcell go
    · rcases hx with k | k
      · have : X.env.scope.names.lookup x = some .free := hk
        rw [k] at this; cases this
      · have : X.env.scope.names.lookup x = some .free := hk
        rw [k] at this; cases this
/-- o[i] op= e -/
def tAugS (to ti te : TE) (tget : V → V → Hp → VK → Prop) (tip : TIp) (tset : TSet) : TS := fun D σ H => to σ H fun o H1 => ti σ H1 fun i H2 => tget o i H2 fun x H3 => te σ H3 fun y H4 => tip x y H4 fun z H5 => tset o i z H5 fun H6 => D.nx σ H6
/-- o[i], by values -/
def PGet (X : Cx) (t : V → V → Hp → VK → Prop) : Prop :=
  ∀ (pins : List (Addr × Obj)) (s : Shared) (σ : St) (H : Hp) (o i : V) (ov iv : Value) (Q : VK), Inv X pins σ H s → RelV o ov → RelV i iv → t o i H Q →
    wpAny (model X.prog X.w) X.A (getItem ov iv) (EP X pins σ Q) X.xe s
/-- ints -/
def ipI (f : Int → Int → Int) : TIp := fun x y H Q => ∃ i j, x = .int i ∧ y = .int j ∧ Q (.int (f i j)) H
theorem ip_add : PIp X .Add (ipI fun i j => i + j) := by
  intro pins s σ H x y v u Q I r1 r2 h
  obtain ⟨i, j, e1, e2, q⟩ := h
  subst e1; subst e2
  obtain ⟨t, rfl⟩ := r1
  obtain ⟨t', rfl⟩ := r2
  exact iadd_int ⟨.int _, H, I.tok _, ⟨_, rfl⟩, q⟩
end

/-! ### while -/
section
variable {X : Cx} {pos : Pos}
/-- the invariant W with its measure -/
def tWhile (c : TT) (tb : TS) : TS := fun D σ H => ∃ W : Nat → St → Hp → Prop, (∃ m, W m σ H) ∧ ∀ m σ H, W m σ H →
  c σ H fun b H1 => if b = true then ∃ N : St → Hp → Prop, (∀ σ' H', N σ' H' → ∃ m', m' < m ∧ W m' σ' H') ∧ tb { D with nx := N, ct := N, bk := D.nx } σ H1 else D.nx σ H1
theorem ps_while {c : Expr} {body : List Stmt} {tc : TT} {tb : TS} (hp : PassesOwn (model X.prog X.w) X.A X.env X.xe) (hc : PT X c tc) (hb : PSs X body tb) : PS X (.While c body [] pos) (tWhile tc tb) := by
  intro pins s σ H D I h
  obtain ⟨W, ⟨m0, w0⟩, turn⟩ := h
  refine wpAny_While (codeAny_whileLoop (fun n s' => ∃ σ' H', Inv X pins σ' H' s' ∧ W n σ' H') ?_ m0 ⟨σ, H, I, w0⟩)
  rintro n s1 ⟨σ1, H1, I1, w1⟩
  refine wpAny_passesOwn hp (thn (hc pins s1 σ1 H1 _ I1 (turn n σ1 H1 w1)) fun b s2 ⟨H2, I2, q2⟩ => ?_)
  cases b with
  | true =>
    obtain ⟨N, hN, q2⟩ := q2
    rw [if_pos rfl]
    refine wpAny_passesOwn hp (thn (hb pins s2 σ1 H2 _ I2 q2) fun f s3 q3 => ?_)
    cases f with
    | next =>
      obtain ⟨σ3, H3, I3, n3⟩ := q3
      obtain ⟨m', hm, w3⟩ := hN σ3 H3 n3
      exact ⟨m', hm, σ3, H3, I3, w3⟩
    | cont =>
      obtain ⟨σ3, H3, I3, n3⟩ := q3
      obtain ⟨m', hm, w3⟩ := hN σ3 H3 n3
      exact ⟨m', hm, σ3, H3, I3, w3⟩
    | brk => exact q3
    | ret v => exact q3
  | false =>
    rw [if_neg Bool.false_ne_true]
    exact wpAny_execs_nil ⟨σ1, H2, I2, q2⟩
end

/-! ### what a loop or a comprehension walks -/
/-- at turn i: it yields x (the heap may grow), or it stops -/
structure It where
  go : Nat → Hp → Prop
  yld : Nat → Hp → V → Hp → Prop
  stop : Nat → Hp → Prop
/-- the iterator's own objects may turn: they are not the frame's, not pinned, younger than the entry (or a comprehension's own) -/
def FpOk (X : Cx) (pins : List (Addr × Obj)) (H : Hp) (b : Addr) : Prop :=
  H b = none ∧ b ≠ X.env.locals ∧ b ∉ X.fs ∧ (b ∈ X.ex ∨ X.s₀.heap.objs.size ≤ b) ∧ (∀ x c, X.env.cells.lookup x = some c → c ≠ b) ∧ ∀ p ∈ X.pn ++ pins, p.1 ≠ b
theorem Inv.fpOk {X : Cx} {pins : List (Addr × Obj)} {σ : St} {H H' : Hp} {s : Shared} {b : Addr} (I : Inv X pins σ H s) (hb : s.heap.objs.size ≤ b) (hn : H' b = none) : FpOk X pins H' b := by
  refine ⟨hn, Nat.ne_of_gt (Nat.lt_of_lt_of_le I.lt hb), I.nofs hb, .inr (Nat.le_trans I.sz hb), fun x c e z => ?_, fun p hp z => ?_⟩
  · obtain ⟨v, q⟩ := I.cell x c e
    exact absurd (Nat.lt_of_lt_of_le q.lt (by rw [z]; exact hb)) (Nat.lt_irrefl _)
  · exact absurd (Nat.lt_of_lt_of_le (Heap.lt_size (I.pin p hp).1) (by rw [z]; exact hb)) (Nat.lt_irrefl _)
structure Turn (P : Program) (w : World) (K : PySem.W.Frag) (tg : Expr) (J : It) (fp : List Addr) (it : Addr) (tn : Nat → Heap → Prop) : Prop where
  mem : it ∈ fp
  obj : ∀ i h, tn i h → ∀ b ∈ fp, ∃ o, h.get? b = some o ∧ ∀ v, o.data ≠ .cell v
  keep : ∀ i h h', tn i h → (∀ b ∈ fp, ∀ o, h.get? b = some o → h'.get? b = some o) → tn i h'
  item : ∀ (X : Cx), X.prog = P → X.w = w → X.K = K → X.calm = true → ∀ (i : Nat) (pins : List (Addr × Obj)) (s : Shared) (σ : St) (H : Hp) (E : Value → Shared → Prop), Inv X pins σ H s → (∀ b ∈ fp, FpOk X pins H b) → tn i s.heap → J.go i H →
    wpAny (model P w) X.A (pyNext (.ref it)) (fun r s1 => ∃ u, r = some u ∧
      wpAny (model P w) X.A (letOwnedTupleGo tg (.ref it) u) (fun _ s2 => ∃ x H', Inv X pins σ H' s2 ∧ RelV x u ∧ J.yld i H x H' ∧ tn (i + 1) s2.heap ∧ ∀ b ∈ fp, H' b = none) E s1) E s
  done : ∀ (X : Cx), X.prog = P → X.w = w → X.K = K → X.calm = true → ∀ (i : Nat) (pins : List (Addr × Obj)) (s : Shared) (σ : St) (H : Hp) (E : Value → Shared → Prop), Inv X pins σ H s → (∀ b ∈ fp, FpOk X pins H b) → tn i s.heap → J.stop i H →
    wpAny (model P w) X.A (pyNext (.ref it)) (fun r s1 => r = none ∧ Inv X pins σ H s1) E s
  self : ∀ (A : Around) (i : Nat) (s : Shared) (Q : Value → Shared → Prop) (E : Value → Shared → Prop), tn i s.heap → Q (.ref it) s → wpAny (model P w) A (pyIter (.ref it)) Q E s
abbrev TI := St → Hp → (It → Hp → Prop) → Prop
/-- an iterator has come -/
def PIE (X : Cx) (pins : List (Addr × Obj)) (σ : St) (tg : Expr) (R : It → Hp → Prop) (itv : Value) (s2 : Shared) : Prop :=
  ∃ (it : Addr) (fp : List Addr) (tn : Nat → Heap → Prop) (J : It) (H' : Hp), itv = .ref it ∧ Inv X pins σ H' s2 ∧ Turn X.prog X.w X.K tg J fp it tn ∧ tn 0 s2.heap ∧ (∀ b ∈ fp, FpOk X pins H' b) ∧ R J H'
def PI (X : Cx) (tg iter : Expr) (wi : TI) : Prop :=
  ∀ (pins : List (Addr × Obj)) (s : Shared) (σ : St) (H : Hp) (R : It → Hp → Prop), Inv X pins σ H s → wi σ H R →
    wpAny (model X.prog X.w) X.A (eval iter X.env) (fun v s1 => wpAny (model X.prog X.w) X.A (pyIter v) (PIE X pins σ tg R) X.xe s1) X.xe s

/-- the step ahead of the store is nothing for an iterator that keeps no tuple -/
theorem go_of {M : Model} {A : Around} {E : Value → Shared → Prop} {s : Shared} {tg : Expr} {it : Addr} {u : Value} {o : Obj} {n : String} {vs : Array Value} {Q : Unit → Shared → Prop} (ho : s.heap.get? it = some o) (hc : o.cls = .type n) (hd : o.data = .fields vs)
    (hn : ["enumerate", "zip", "dict_itemiterator", "dict_reverseitemiterator", "odict_iterator", "itertools.zip_longest", "itertools.pairwise"].contains n = false) (hQ : Q () s) : wpAny M A (letOwnedTupleGo tg (.ref it) u) Q E s := by
  unfold letOwnedTupleGo
  cases tg <;> first
    | exact wpAny_pure hQ
    | (cases u <;> first
        | exact wpAny_pure hQ
        | (refine wpAny_bind (wpAny_load ho ?_)
           rw [hc, hd]
           show wpAny M A (if (["enumerate", "zip", "dict_itemiterator", "dict_reverseitemiterator", "odict_iterator", "itertools.zip_longest", "itertools.pairwise"].contains n && vs[0]? == some (rawInt _)) = true then _ else _) Q E s
           rw [if_neg (by intro h; rw [hn, Bool.false_and] at h; cases h)]
           exact wpAny_pure hQ))

/-- the list at a, as it stands at each turn (a loop may append to it) -/
def Itl (K : PySem.W.Frag) (a : Addr) : It :=
  ⟨fun i H => ∃ xs x, SqL K H a xs ∧ xs[i]? = some x, fun i H x H' => H' = H ∧ ∀ xs, SqL K H a xs → xs[i]? = some x, fun i H => ∃ xs, SqL K H a xs ∧ xs.length ≤ i⟩
def Itt (K : PySem.W.Frag) (a : Addr) : It :=
  ⟨fun i H => ∃ xs x, SqT K H a xs ∧ xs[i]? = some x, fun i H x H' => H' = H ∧ ∀ xs, SqT K H a xs → xs[i]? = some x, fun i H => ∃ xs, SqT K H a xs ∧ xs.length ≤ i⟩
/-- lo, lo + 1, .. (n of them) -/
def Itr (lo : Int) (n : Nat) : It := ⟨fun i _ => i < n, fun i H x H' => H' = H ∧ x = .int (lo + i), fun i _ => n ≤ i⟩
theorem turn_list {P : Program} {w : World} {K : PySem.W.Frag} {tg : Expr} (a it : Addr) : Turn P w K tg (Itl K a) [it] it (fun i h => h.IsListIter it a i) where
  mem := by simp
  obj := fun i h st b hb => by
    have e : b = it := by simpa using hb
    subst e
    obtain ⟨o, e, c, d⟩ := st
    exact ⟨o, e, fun v z => by rw [d] at z; cases z⟩
  keep := fun i h h' st k => st.at fun o e => k it (by simp) o e
  item := by
    intro X hP hw hK hc i pins s σ H E I hf st hg
    subst hP hw hK
    obtain ⟨xs, x, hq, hx⟩ := hg
    obtain ⟨its, rv, p, hz⟩ := I.list hq
    obtain ⟨u, hu, ru⟩ := rv.get hx
    obtain ⟨f0, f1, f2, f3, f4, f5⟩ := hf it (by simp)
    refine wpAny_pyNext_list_item st p.isList (x := u) (by simpa using hu) fun h' st' sb => ?_
    have I1 : Inv X pins σ H { s with heap := h' } := I.turned (t' := s.toks) (fun b o hb e => (sb.2 b hb).trans e) f0 f1 f3 f4 f5
    obtain ⟨o, e, c, d⟩ := id st'
    exact ⟨u, rfl, go_of (s := { s with heap := h' }) e c d (by decide) ⟨x, H, I1, ru, ⟨rfl, fun ys hy => by rw [I.list_inj hy hq]; exact hx⟩, st', fun b hb => (hf b hb).1⟩⟩
  done := by
    intro X hP hw hK hc i pins s σ H E I hf st hg
    subst hP hw hK
    obtain ⟨xs, hq, hx⟩ := hg
    obtain ⟨its, rv, p, hz⟩ := I.list hq
    obtain ⟨f0, f1, f2, f3, f4, f5⟩ := hf it (by simp)
    have hl := rv.length
    exact wpAny_pyNext_list_end (I.ok.hd hc) st p.isList (by simp; omega) fun h' eb => ⟨rfl, I.turned (t' := s.toks) (fun b o hb e => eb b o hb e) f0 f1 f3 f4 f5⟩
  self := fun _ _ _ _ _ st h => wpAny_pyIter_listiter st h
theorem turn_range {P : Program} {w : World} {K : PySem.W.Frag} {tg : Expr} (it : Addr) (lo : Int) (n : Nat) : Turn P w K tg (Itr lo n) [it] it (fun i h => IsRangeIter h it (lo + (i : Nat) * 1) ((n : Int) - (i : Nat)) 1) where
  mem := by simp
  obj := fun i h st b hb => by
    have e : b = it := by simpa using hb
    subst e
    exact ⟨_, st, fun v z => by
      have z' : Data.fields _ = Data.cell v := z
      cases z'⟩
  keep := fun i h h' st k => k it (by simp) _ st
  item := by
    intro X hP hw hK hc i pins s σ H E I hf st hg
    subst hP hw hK
    obtain ⟨f0, f1, f2, f3, f4, f5⟩ := hf it (by simp)
    have W := Walks.range (prog := X.prog) (w := X.w) (I.ok.hd hc) it lo 1 n
    refine W.item i s _ _ hg st fun v h' tk hv st' kk => ?_
    obtain ⟨t, rfl⟩ := hv
    have I1 : Inv X pins σ H { s with heap := h', toks := tk } := I.turned (fun b o hb e => kk b o (by simpa using hb) e) f0 f1 f3 f4 f5
    refine ⟨_, rfl, go_of (s := { s with heap := h', toks := tk }) (n := "range_iterator") st' rfl rfl (by decide) ⟨.int (lo + i), H, I1, ⟨t, ?_⟩, ⟨rfl, rfl⟩, st', fun b hb => (hf b hb).1⟩⟩
    rw [Int.mul_one]
  done := by
    intro X hP hw hK hc i pins s σ H E I hf st hg
    subst hP hw hK
    obtain ⟨f0, f1, f2, f3, f4, f5⟩ := hf it (by simp)
    exact wpAny_pyNext_range_end (I.ok.hd hc) st (by have : n ≤ i := hg; omega) fun h' eb => ⟨rfl, I.turned (t' := s.toks) (fun b o hb e => eb b o hb e) f0 f1 f3 f4 f5⟩
  self := fun _ _ _ _ _ st h => wpAny_pyIter_rangeiter st h
end L2

namespace L2
open PySem PySem.Spec PyProof.Rows
section
variable {X : Cx} {tg : Expr}
def iList (K : PySem.W.Frag) (tl : TE) : TI := fun σ H R => tl σ H fun x H1 => ∃ a, x = .ref a ∧ (∃ xs, SqL K H1 a xs) ∧ R (Itl K a) H1
def iTup (K : PySem.W.Frag) (tl : TE) : TI := fun σ H R => tl σ H fun x H1 => ∃ a, x = .ref a ∧ (∃ xs, SqT K H1 a xs) ∧ R (Itt K a) H1
theorem pi_list {l : Expr} {tl : TE} (hl : PE X l tl) : PI X tg l (iList X.K tl) := by
  intro pins s σ H R I h
  refine thn (hl pins s σ H _ I h) fun v s1 ⟨x, H1, I1, r1, q1⟩ => ?_
  obtain ⟨a, e, ⟨xs, hq⟩, q⟩ := q1
  subst e
  cases r1
  obtain ⟨its, rv, p, hz⟩ := I1.list hq
  refine wpAny_pyIter_list p.isList ?_
  refine ⟨s1.heap.objs.size, [s1.heap.objs.size], _, _, H1, rfl, I1.kept (t' := s1.toks) fun b o e => Heap.get?_push_of_some _ e, turn_list a _, ⟨_, Heap.get?_push_size _ rfl, rfl, rfl⟩, fun b hb => ?_, q⟩
  have e : b = s1.heap.objs.size := by simpa using hb
  subst e
  exact I1.fpOk (Nat.le_refl _) (I1.hok.fresh (Nat.le_refl _))
/-- a range object just made, walked -/
theorem range_it {pins : List (Addr × Obj)} {σ : St} {H : Hp} {s : Shared} {R : It → Hp → Prop} {E : Value → Shared → Prop} {lo hi : Int} {t u v : Tok} {tk : Nat} (I : Inv X pins σ H s) (h1 : -(2 ^ 62) ≤ lo) (h2 : lo < 2 ^ 62) (h3 : -(2 ^ 62) ≤ hi) (h4 : hi < 2 ^ 62)
    (q : R (Itr lo (hi - lo).toNat) H) : wpAny (model X.prog X.w) X.A (pyIter (.ref s.heap.objs.size)) (PIE X pins σ tg R) E { s with heap := s.heap.push { cls := .type "range", data := .fields #[.int lo t, .int hi u, .int 1 v] }, toks := tk } := by
  refine wpAny_pyIter_range (IsRange.new ..) (small_one h1 h2 h3 h4) ?_
  have I1 : Inv X pins σ H { s with heap := s.heap.push { cls := .type "range", data := .fields #[.int lo t, .int hi u, .int 1 v] }, toks := tk } := I.kept fun b o e => Heap.get?_push_of_some _ e
  refine ⟨(s.heap.push { cls := .type "range", data := .fields #[.int lo t, .int hi u, .int 1 v] }).objs.size, [(s.heap.push { cls := .type "range", data := .fields #[.int lo t, .int hi u, .int 1 v] }).objs.size], _, _, H, rfl,
    I1.kept (t' := tk) fun b o e => Heap.get?_push_of_some _ e, turn_range _ lo (hi - lo).toNat, ?_, fun b hb => ?_, q⟩
  · have e1 : lo + ((0 : Nat) : Int) * 1 = lo := by simp
    have e2 : (((hi - lo).toNat : Nat) : Int) - ((0 : Nat) : Int) = Builtin.Range.rangeSize lo hi 1 := by rw [rangeSize_one]; split <;> omega
    show IsRangeIter _ _ (lo + ((0 : Nat) : Int) * 1) ((((hi - lo).toNat : Nat) : Int) - ((0 : Nat) : Int)) 1
    rw [e1, e2]
    exact Heap.get?_push_size _ rfl
  · have e : b = (s.heap.push { cls := .type "range", data := .fields #[.int lo t, .int hi u, .int 1 v] }).objs.size := by simpa using hb
    subst e
    exact I1.fpOk (Nat.le_refl _) (I1.hok.fresh (Nat.le_refl _))
def iRng1 (ta : TA) : TI := fun σ H R => ta σ H fun vs H1 => ∃ j : Int, vs = [.int j] ∧ -(2 ^ 62) ≤ j ∧ j < 2 ^ 62 ∧ R (Itr 0 j.toNat) H1
def iRng2 (ta : TA) : TI := fun σ H R => ta σ H fun vs H1 => ∃ i j : Int, vs = [.int i, .int j] ∧ (-(2 ^ 62) ≤ i ∧ i < 2 ^ 62 ∧ -(2 ^ 62) ≤ j ∧ j < 2 ^ 62) ∧ R (Itr i (j - i).toNat) H1
theorem pi_range1 {a : Expr} {ta : TA} {p pos : Pos} (hg : Gl X "range") (hm : X.mg "range" = none) (ha : PA X [a] ta) (hs : starEach [a] X.env = [(false, eval a X.env)] := by rfl) : PI X tg (.Call (.Name "range" p) [a] [] pos) (iRng1 ta) := by
  intro pins s σ H R I h
  refine Call_ (ld_blt I hg hm boot_range (PyProof.Rows.callWith_type1 (thn (ha pos pins s σ H _ I h) fun us s1 ⟨vs, H1, I1, r1, q1⟩ => ?_) hs rfl))
  obtain ⟨j, e, q1, q2, q⟩ := q1
  subst e
  cases r1 with
  | cons r rr =>
    cases rr
    obtain ⟨t, rfl⟩ := r
    exact call_range_1 (range_it I1 (by omega) (by omega) q1 q2 (by simpa using q))
theorem pi_range2 {a b : Expr} {ta : TA} {p pos : Pos} (hg : Gl X "range") (hm : X.mg "range" = none) (ha : PA X [a, b] ta) (hs : starEach [a, b] X.env = [(false, eval a X.env), (false, eval b X.env)] := by rfl) (hs2 : starEach [b] X.env = [(false, eval b X.env)] := by rfl) :
    PI X tg (.Call (.Name "range" p) [a, b] [] pos) (iRng2 ta) := by
  intro pins s σ H R I h
  refine Call_ (ld_blt I hg hm boot_range (PyProof.Rows.callWith_type1 (thn (ha pos pins s σ H _ I h) fun us s1 ⟨vs, H1, I1, r1, q1⟩ => ?_) (by rw [hs, hs2]) (by rw [hs2]; rfl)))
  obtain ⟨i, j, e, ⟨q1, q2, q3, q4⟩, q⟩ := q1
  subst e
  cases r1 with
  | cons r rr =>
    cases rr with
    | cons r' rr =>
      cases rr
      obtain ⟨t, rfl⟩ := r
      obtain ⟨t', rfl⟩ := r'
      exact call_range_2 (range_it I1 q1 q2 q3 q4 q)

/-! ### for -/
/-- W: the invariant by the turn and a measure; N: what the body is to reach -/
def tFor (wi : TI) (g : TG) (tb : TS) : TS := fun D σ H => wi σ H fun J H1 => ∃ W : Nat → Nat → St → Hp → Prop, (∃ m, W 0 m σ H1) ∧ ∀ i m σ H, W i m σ H →
  (J.stop i H ∧ D.nx σ H) ∨ (J.go i H ∧ ∃ N : St → Hp → Prop, (∀ σ' H', N σ' H' → ∃ m', m' < m ∧ W (i + 1) m' σ' H') ∧ ∀ x H', J.yld i H x H' → g x σ H' fun σ2 H2 => tb { D with nx := N, ct := N, bk := D.nx } σ2 H2)
/-- the records at fp as they stand -/
def pinsAt (fp : List Addr) (h : Heap) : List (Addr × Obj) := fp.filterMap fun b => (h.get? b).map fun o => (b, o)
theorem mem_pinsAt {fp : List Addr} {h : Heap} {b : Addr} {o : Obj} (hb : b ∈ fp) (e : h.get? b = some o) : (b, o) ∈ pinsAt fp h := List.mem_filterMap.mpr ⟨b, hb, by rw [e]; rfl⟩
theorem of_pinsAt {fp : List Addr} {h : Heap} {p : Addr × Obj} (hp : p ∈ pinsAt fp h) : p.1 ∈ fp ∧ h.get? p.1 = some p.2 := by
  obtain ⟨b, hb, e⟩ := List.mem_filterMap.mp hp
  cases q : h.get? b with
  | none => rw [q] at e; cases e
  | some o =>
    rw [q] at e
    have e' : (b, o) = p := Option.some.inj e
    subst e'
    exact ⟨hb, q⟩
theorem Inv.pinned {pins : List (Addr × Obj)} {σ : St} {H : Hp} {s : Shared} {fp : List Addr} (I : Inv X pins σ H s) (hf : ∀ b ∈ fp, FpOk X pins H b) (ho : ∀ b ∈ fp, ∃ o, s.heap.get? b = some o ∧ ∀ v, o.data ≠ .cell v) : Inv X (pins ++ pinsAt fp s.heap) σ H s :=
  I.pins_of fun p hp => (List.mem_append.mp hp).elim (fun z => I.pin p (List.mem_append_right _ z)) fun z => by
    obtain ⟨hb, e⟩ := of_pinsAt z
    obtain ⟨f0, f1, f2, _⟩ := hf p.1 hb
    obtain ⟨o, e', d⟩ := ho p.1 hb
    rw [e] at e'; cases e'
    exact ⟨e, f0, f1, f2, d⟩
theorem Inv.unpinned {pins pl : List (Addr × Obj)} {σ : St} {H : Hp} {s : Shared} (I : Inv X (pins ++ pl) σ H s) : Inv X pins σ H s := I.pins_of fun p hp => I.pin p (List.mem_append_right _ (List.mem_append_left _ hp))
theorem ps_for {iter : Expr} {body : List Stmt} {wi : TI} {g : TG} {tb : TS} {pos : Pos} (hp : PassesOwn (model X.prog X.w) X.A X.env X.xe) (hc : X.calm = true) (hi : PI X tg iter wi) (hg : PG X tg g) (hb : PSs X body tb)
    (hs : ∀ x, foldedSetIterable iter X.env x = pure x := by intro _; rfl) : PS X (.For tg iter body [] pos) (tFor wi g tb) := by
  intro pins s σ H D I h
  refine wpAny_For (thn (hi pins s σ H _ I h) fun v s1 h1 => thn h1 fun itv s2 h2 => ?_) hs
  obtain ⟨it, fp, tn, J, H2, e, I2, T, st2, f2, W, ⟨m0, w0⟩, turn⟩ := h2
  subst e
  -- what stays true of the iterator's objects through the loop
  have stat : ∀ {H' : Hp}, (∀ b ∈ fp, H' b = none) → ∀ b ∈ fp, FpOk X pins H' b := fun hn b hb => ⟨hn b hb, (f2 b hb).2⟩
  refine codeAny_forLoop_any (fun n s' => ∃ i σ' H', Inv X pins σ' H' s' ∧ tn i s'.heap ∧ (∀ b ∈ fp, H' b = none) ∧ W i n σ' H') ?_ m0 ⟨0, σ, H2, I2, st2, fun b hb => (f2 b hb).1, w0⟩
  rintro n s3 ⟨i, σ3, H3, I3, st3, fr3, w3⟩
  rcases turn i n σ3 H3 w3 with ⟨stop, qn⟩ | ⟨go, N, hN, step⟩
  · refine wpAny_passesOwn hp (thn (T.done X rfl rfl rfl hc i pins s3 σ3 H3 X.xe I3 (stat fr3) st3 stop) fun r s4 ⟨hr, I4⟩ => ?_)
    subst hr
    exact wpAny_execs_nil ⟨σ3, H3, I4, qn⟩
  · refine wpAny_passesOwn hp (thn (T.item X rfl rfl rfl hc i pins s3 σ3 H3 X.xe I3 (stat fr3) st3 go) fun r s4 ⟨u, hr, h4⟩ => ?_)
    subst hr
    refine wpAny_passesOwn hp (thn h4 fun _ s5 ⟨x, H5, I5, r5, y5, st5, fr5⟩ => ?_)
    have I5' := I5.pinned (stat fr5) (T.obj _ _ st5)
    refine wpAny_passesOwn hp (thn (hg _ s5 σ3 H5 x u _ I5' r5 (step x H5 y5)) fun _ s6 ⟨σ6, H6, I6, q6⟩ => ?_)
    refine wpAny_passesOwn hp (thn (hb _ s6 σ6 H6 _ I6 q6) fun f s7 q7 => ?_)
    have again : ∀ {σ7 : St} {H7 : Hp}, Inv X (pins ++ pinsAt fp s5.heap) σ7 H7 s7 → N σ7 H7 → ∃ m, m < n ∧ ∃ i σ' H', Inv X pins σ' H' s7 ∧ tn i s7.heap ∧ (∀ b ∈ fp, H' b = none) ∧ W i m σ' H' := fun {σ7 H7} I7 n7 => by
      obtain ⟨m', hm, w7⟩ := hN σ7 H7 n7
      refine ⟨m', hm, i + 1, σ7, H7, I7.unpinned, T.keep _ _ _ st5 fun b hb o e => (I7.pin (b, o) (List.mem_append_right _ (List.mem_append_right _ (mem_pinsAt hb e)))).1, fun b hb => ?_, w7⟩
      obtain ⟨o, e, d⟩ := T.obj _ _ st5 b hb
      exact (I7.pin (b, o) (List.mem_append_right _ (List.mem_append_right _ (mem_pinsAt hb e)))).2.1
    cases f with
    | next => obtain ⟨σ7, H7, I7, n7⟩ := q7; exact again I7 n7
    | cont => obtain ⟨σ7, H7, I7, n7⟩ := q7; exact again I7 n7
    | brk => obtain ⟨σ7, H7, I7, q7⟩ := q7; exact ⟨σ7, H7, I7.unpinned, q7⟩
    | ret v => obtain ⟨x7, σ7, H7, I7, r7, q7⟩ := q7; exact ⟨x7, σ7, H7, I7.unpinned, r7, q7⟩
end

/-! ### the forms one uses -/
/-- over a list that the body leaves as it is -/
theorem for_list {K : PySem.W.Frag} {a : Addr} {xs : List V} {g : TG} {tb : TS} {D : Ends} {σ : St} {H : Hp} (Pv : Nat → St → Hp → Prop) (h0 : Pv 0 σ H) (hl : ∀ i σ H, i ≤ xs.length → Pv i σ H → SqL K H a xs)
    (hs : ∀ i x σ H, xs[i]? = some x → Pv i σ H → g x σ H fun σ2 H2 => tb { D with nx := Pv (i + 1), ct := Pv (i + 1), bk := D.nx } σ2 H2) (hd : ∀ σ H, Pv xs.length σ H → D.nx σ H) :
    ∃ W : Nat → Nat → St → Hp → Prop, (∃ m, W 0 m σ H) ∧ ∀ i m σ H, W i m σ H →
      ((Itl K a).stop i H ∧ D.nx σ H) ∨ ((Itl K a).go i H ∧ ∃ N : St → Hp → Prop, (∀ σ' H', N σ' H' → ∃ m', m' < m ∧ W (i + 1) m' σ' H') ∧ ∀ x H', (Itl K a).yld i H x H' → g x σ H' fun σ2 H2 => tb { D with nx := N, ct := N, bk := D.nx } σ2 H2) := by
  refine ⟨fun i m σ H => m = xs.length - i ∧ i ≤ xs.length ∧ Pv i σ H, ⟨xs.length, by simp, Nat.zero_le _, h0⟩, ?_⟩
  rintro i m σ H ⟨rfl, hi, p⟩
  have q := hl i σ H hi p
  by_cases hlt : i < xs.length
  · refine .inr ⟨⟨xs, xs[i], q, by simp [hlt]⟩, Pv (i + 1), fun σ' H' p' => ⟨xs.length - (i + 1), by omega, rfl, hlt, p'⟩, fun x H' y => ?_⟩
    obtain ⟨e, y⟩ := y
    subst e
    exact hs i x σ _ (y xs q) p
  · have e : i = xs.length := by omega
    subst e
    exact .inl ⟨⟨xs, q, Nat.le_refl _⟩, hd σ H p⟩
theorem for_range {lo : Int} {n : Nat} {g : TG} {tb : TS} {D : Ends} {σ : St} {H : Hp} (Pv : Nat → St → Hp → Prop) (h0 : Pv 0 σ H)
    (hs : ∀ i σ H, i < n → Pv i σ H → g (.int (lo + i)) σ H fun σ2 H2 => tb { D with nx := Pv (i + 1), ct := Pv (i + 1), bk := D.nx } σ2 H2) (hd : ∀ σ H, Pv n σ H → D.nx σ H) :
    ∃ W : Nat → Nat → St → Hp → Prop, (∃ m, W 0 m σ H) ∧ ∀ i m σ H, W i m σ H →
      ((Itr lo n).stop i H ∧ D.nx σ H) ∨ ((Itr lo n).go i H ∧ ∃ N : St → Hp → Prop, (∀ σ' H', N σ' H' → ∃ m', m' < m ∧ W (i + 1) m' σ' H') ∧ ∀ x H', (Itr lo n).yld i H x H' → g x σ H' fun σ2 H2 => tb { D with nx := N, ct := N, bk := D.nx } σ2 H2) := by
  refine ⟨fun i m σ H => m = n - i ∧ i ≤ n ∧ Pv i σ H, ⟨n, by simp, Nat.zero_le _, h0⟩, ?_⟩
  rintro i m σ H ⟨rfl, hi, p⟩
  by_cases hlt : i < n
  · refine .inr ⟨hlt, Pv (i + 1), fun σ' H' p' => ⟨n - (i + 1), by omega, rfl, hlt, p'⟩, fun x H' y => ?_⟩
    obtain ⟨e, y⟩ := y
    subst e y
    exact hs i σ _ hlt p
  · have e : i = n := by omega
    subst e
    exact .inl ⟨Nat.le_refl _, hd σ H p⟩
end L2

namespace L2
open PySem PySem.Spec PyProof.Rows

abbrev R2 := V → V → Hp → VK → Prop
/-- a two-place operation on values: f is binaryOp op, inplaceOp op or compareOp op -/
def OpR (X : Cx) (f : Value → Value → Sem Value) (r : R2) : Prop :=
  ∀ (pins : List (Addr × Obj)) (s : Shared) (σ : St) (H : Hp) (x y : V) (v u : Value) (Q : VK), Inv X pins σ H s → RelV x v → RelV y u → r x y H Q →
    wpAny (model X.prog X.w) X.A (f v u) (EP X pins σ Q) X.xe s
/-- a one-place operation -/
def UnR (X : Cx) (f : Value → Sem Value) (r : V → Hp → VK → Prop) : Prop :=
  ∀ (pins : List (Addr × Obj)) (s : Shared) (σ : St) (H : Hp) (x : V) (v : Value) (Q : VK), Inv X pins σ H s → RelV x v → r x H Q →
    wpAny (model X.prog X.w) X.A (f v) (EP X pins σ Q) X.xe s
/-- a call of a value that is known (a builtin, a type) with values -/
def CallR (X : Cx) (f : Value) (r : List V → Hp → VK → Prop) : Prop :=
  ∀ (pins : List (Addr × Obj)) (s : Shared) (σ : St) (H : Hp) (xs : List V) (us : List Value) (Q : VK), Inv X pins σ H s → Vals xs us → r xs H Q →
    wpAny (model X.prog X.w) X.A (call f us) (EP X pins σ Q) X.xe s
/-- a value's truth -/
def TruR (X : Cx) (r : V → Hp → (Bool → Hp → Prop) → Prop) : Prop :=
  ∀ (pins : List (Addr × Obj)) (s : Shared) (σ : St) (H : Hp) (x : V) (v : Value) (Q : Bool → Hp → Prop), Inv X pins σ H s → RelV x v → r x H Q →
    wpAny (model X.prog X.w) X.A (truthy v) (TP X pins σ Q) X.xe s

def tOp (r : R2) (ta tb : TE) : TE := fun σ H Q => ta σ H fun x H1 => tb σ H1 fun y H2 => r x y H2 Q
def tUn (r : V → Hp → VK → Prop) (ta : TE) : TE := fun σ H Q => ta σ H fun x H1 => r x H1 Q
/-- ints in, under C, and a value out -/
def rI (C : Int → Int → Prop) (g : Int → Int → V) : R2 := fun x y H Q => ∃ i j, x = .int i ∧ y = .int j ∧ C i j ∧ Q (g i j) H
def rI0 (g : Int → Int → V) : R2 := fun x y H Q => ∃ i j, x = .int i ∧ y = .int j ∧ Q (g i j) H
def rU (g : Int → V) : V → Hp → VK → Prop := fun x H Q => ∃ i, x = .int i ∧ Q (g i) H

section
variable {X : Cx} {a b c : Expr} {ta tb tc : TE} {pos : Pos}

theorem binT (ha : PE X a ta) (hb : PE X b tb) {pins : List (Addr × Obj)} {s : Shared} {σ : St} {H : Hp} {R : V → V → Hp → Prop} (I : Inv X pins σ H s)
    (h : ta σ H fun x H1 => tb σ H1 fun y H2 => R x y H2) {Q : Value → Shared → Prop} {f : Value → Value → Sem Value}
    (hf : ∀ v u s2 x y H2, Inv X pins σ H2 s2 → RelV x v → RelV y u → R x y H2 → wpAny (model X.prog X.w) X.A (f v u) Q X.xe s2) :
    wpAny (model X.prog X.w) X.A (eval a X.env) (fun v s₁ => wpAny (model X.prog X.w) X.A (eval b X.env) (fun u s₂ => wpAny (model X.prog X.w) X.A (f v u) Q X.xe s₂) X.xe s₁) X.xe s := by
  refine thn (ha pins s σ H _ I h) fun v s1 ⟨x, H1, I1, r1, q1⟩ => ?_
  refine thn (hb pins s1 σ H1 _ I1 q1) fun u s2 ⟨y, H2, I2, r2, q2⟩ => ?_
  exact hf v u s2 x y H2 I2 r1 r2 q2

theorem pe_op {op : Operator} {r : R2} (ho : OpR X (binaryOp op) r) (ha : PE X a ta) (hb : PE X b tb) : PE X (.BinOp a op b pos) (tOp r ta tb) := by
  intro pins s σ H Q I h
  exact wpAny_BinOp (binT ha hb I h fun v u s2 x y H2 I2 rx ry q => ho pins s2 σ H2 x y v u Q I2 rx ry q)
theorem pe_un {op : UnaryOp} {r : V → Hp → VK → Prop} (ho : UnR X (unaryOp op) r) (ha : PE X a ta) : PE X (.UnaryOp op a pos) (tUn r ta) := by
  intro pins s σ H Q I h
  exact UnaryOp_ (thn (ha pins s σ H _ I h) fun v s1 ⟨x, H1, I1, r1, q1⟩ => ho pins s1 σ H1 x v Q I1 r1 q1)
/-! ### ints -/
theorem opI {f : Value → Value → Sem Value} {C : Int → Int → Prop} {g : Int → Int → Int}
    (rule : ∀ (i j : Int) (t u : Tok) (s : Shared) (Q : Value → Shared → Prop) (E : Value → Shared → Prop), C i j → Q (.int (g i j) s.toks) { s with toks := s.toks + 1 } → wpAny (model X.prog X.w) X.A (f (.int i t) (.int j u)) Q E s) :
    OpR X f (rI C fun i j => .int (g i j)) := by
  intro pins s σ H x y v u Q I rx ry h
  obtain ⟨i, j, rfl, rfl, hc, q⟩ := h
  obtain ⟨t, rfl⟩ := rx
  obtain ⟨t', rfl⟩ := ry
  exact rule i j t t' s _ _ hc ⟨.int (g i j), H, I.tok _, ⟨_, rfl⟩, q⟩
theorem opI0 {f : Value → Value → Sem Value} {g : Int → Int → Int}
    (rule : ∀ (i j : Int) (t u : Tok) (s : Shared) (Q : Value → Shared → Prop) (E : Value → Shared → Prop), Q (.int (g i j) s.toks) { s with toks := s.toks + 1 } → wpAny (model X.prog X.w) X.A (f (.int i t) (.int j u)) Q E s) :
    OpR X f (rI0 fun i j => .int (g i j)) := by
  intro pins s σ H x y v u Q I rx ry h
  obtain ⟨i, j, rfl, rfl, q⟩ := h
  obtain ⟨t, rfl⟩ := rx
  obtain ⟨t', rfl⟩ := ry
  exact rule i j t t' s _ _ ⟨.int (g i j), H, I.tok _, ⟨_, rfl⟩, q⟩
theorem opB0 {f : Value → Value → Sem Value} {g : Int → Int → Bool}
    (rule : ∀ (i j : Int) (t u : Tok) (s : Shared) (Q : Value → Shared → Prop) (E : Value → Shared → Prop), Q (.bool (g i j)) s → wpAny (model X.prog X.w) X.A (f (.int i t) (.int j u)) Q E s) :
    OpR X f (rI0 fun i j => .bl (g i j)) := by
  intro pins s σ H x y v u Q I rx ry h
  obtain ⟨i, j, rfl, rfl, q⟩ := h
  obtain ⟨t, rfl⟩ := rx
  obtain ⟨t', rfl⟩ := ry
  exact rule i j t t' s _ _ ⟨.bl (g i j), H, I, rfl, q⟩

def CDiv (i j : Int) : Prop := 0 < j ∧ j < 1073741824
def CDivN (i j : Int) : Prop := j ≠ 0 ∧ j.natAbs < 1073741824
def CPow (i j : Int) : Prop := 0 ≤ j ∧ j ≤ 1000000 ∧ i.natAbs < 2 ^ 64
def CMul (i j : Int) : Prop := (-(2 ^ 64) < i ∧ i < 2 ^ 64) ∨ (-(2 ^ 64) < j ∧ j < 2 ^ 64)
theorem CMul.ok {i j : Int} (h : CMul i j) : IntMulOk i j := by
  rcases h with ⟨h1, h2⟩ | ⟨h1, h2⟩
  · exact .of_left (intBits_le_64 h1 h2)
  · exact .of_right (intBits_le_64 h1 h2)
theorem op_add : OpR X (binaryOp .Add) (rI0 fun i j => .int (i + j)) := opI0 fun _ _ _ _ _ _ _ q => add_int q
theorem op_sub : OpR X (binaryOp .Sub) (rI0 fun i j => .int (i - j)) := opI0 fun _ _ _ _ _ _ _ q => sub_int q
theorem op_mul : OpR X (binaryOp .Mult) (rI CMul fun i j => .int (i * j)) := opI fun _ _ _ _ _ _ _ hc q => mul_int q hc.ok
/-- // by a positive divisor -/
theorem op_fdiv : OpR X (binaryOp .FloorDiv) (rI CDiv fun i j => .int (i / j)) := opI fun i j _ _ _ _ _ hc q => by
  have h1 : (0 : Int) < j := hc.1
  have h2 : j < 1073741824 := hc.2
  exact floordiv_int (by omega) (by rw [Int.fdiv_eq_ediv_of_nonneg i (by omega)]; exact q) (.inl (PyProof.noPylong_small (by omega)))
/-- % by a positive divisor of any size -/
theorem op_mod : OpR X (binaryOp .Mod) (rI (fun _ j => 0 < j) fun i j => .int (i % j)) := opI fun i j _ _ _ _ _ hc q => by
  have h1 : (0 : Int) < j := hc
  exact mod_int' (by omega) (by rw [Int.fmod_eq_emod_of_nonneg i (by omega)]; exact q)
theorem op_pow : OpR X (binaryOp .Pow) (rI CPow fun i j => .int (i ^ j.toNat)) := opI fun _ _ _ _ _ _ _ hc q => pow_int_small hc.1 hc.2.1 hc.2.2 q
theorem unI {f : Value → Sem Value} {g : Int → Int}
    (rule : ∀ (i : Int) (t : Tok) (s : Shared) (Q : Value → Shared → Prop) (E : Value → Shared → Prop), Q (.int (g i) s.toks) { s with toks := s.toks + 1 } → wpAny (model X.prog X.w) X.A (f (.int i t)) Q E s) :
    UnR X f (rU fun i => .int (g i)) := by
  intro pins s σ H x v Q I rx h
  obtain ⟨i, rfl, q⟩ := h
  obtain ⟨t, rfl⟩ := rx
  exact rule i t s _ _ ⟨.int (g i), H, I.tok _, ⟨_, rfl⟩, q⟩
theorem un_neg : UnR X (unaryOp .USub) (rU fun i => .int (-i)) := unI fun _ _ _ _ _ q => neg_int q
/-! ### bools among ints: n += (a < b) -/
end

/-! ### comparisons -/
/-- the scalars that == tells apart as data does -/
def scal : V → V → Bool
  | .non, .non => true | .non, .int _ => true | .int _, .non => true | .non, .bl _ => true | .bl _, .non => true | .non, .str _ => true | .str _, .non => true
  | .int _, .int _ => true | .bl _, .bl _ => true | .str _, .str _ => true | .byt _, .byt _ => true
  | .int _, .str _ => true | .str _, .int _ => true | .bl _, .str _ => true | .str _, .bl _ => true
  | _, _ => false
def rEq : R2 := fun x y H Q => scal x y = true ∧ Q (.bl (decide (x = y))) H
def rNe : R2 := fun x y H Q => scal x y = true ∧ Q (.bl (!decide (x = y))) H

theorem dec_int {i j : Int} : decide (V.int i = V.int j) = (i == j) := by
  rw [Bool.eq_iff_iff]
  simp
theorem dec_bl {i j : Bool} : decide (V.bl i = V.bl j) = (i == j) := by
  rw [Bool.eq_iff_iff]
  simp
theorem dec_str {i j : Str} : decide (V.str i = V.str j) = (i == j) := by
  rw [Bool.eq_iff_iff]
  simp
theorem dec_byt {i j : Array UInt8} : decide (V.byt i = V.byt j) = (i.toList == j.toList) := by
  rw [Bool.eq_iff_iff]
  cases i
  cases j
  simp

section
variable {X : Cx} {a b c : Expr} {ta tb tc : TE} {pos : Pos}
theorem fin_bl {pins : List (Addr × Obj)} {σ : St} {H : Hp} {s : Shared} {Q : VK} {k k' : Bool} (I : Inv X pins σ H s) (q : Q (.bl k) H) (e : k = k') : EP X pins σ Q (.bool k') s := by
  subst e
  exact ⟨.bl k, H, I, rfl, q⟩
theorem op_eq : OpR X (compareOp .Eq) rEq := by
  intro pins s σ H x y v u Q I rx ry h
  obtain ⟨hs, q⟩ := h
  cases x with
  | non =>
    cases rx
    cases y with
    | non => cases ry; exact PySem.EqNone.eq_none_none (fin_bl I q (by simp))
    | bl j => cases ry; exact PySem.EqNone.eq_none_bool (fin_bl I q (by simp))
    | int j => obtain ⟨t', rfl⟩ := ry; exact PySem.EqNone.eq_none_int (fin_bl I q (by simp))
    | str j => obtain ⟨t', rfl⟩ := ry; exact PySem.EqNone.eq_none_str (fin_bl I q (by simp))
    | _ => exact absurd (show false = true from hs) Bool.false_ne_true
  | bl i =>
    cases rx
    cases y with
    | non => cases ry; exact PySem.EqNone.eq_bool_none (fin_bl I q (by simp))
    | bl j => cases ry; exact eq_bool (fin_bl I q dec_bl)
    | str j => obtain ⟨t', rfl⟩ := ry; exact PySem.EqMixed.eq_bool_str (fin_bl I q (by simp))
    | _ => exact absurd (show false = true from hs) Bool.false_ne_true
  | int i =>
    obtain ⟨t, rfl⟩ := rx
    cases y with
    | non => cases ry; exact PySem.EqNone.eq_int_none (fin_bl I q (by simp))
    | int j => obtain ⟨t', rfl⟩ := ry; exact eq_int (fin_bl I q dec_int)
    | str j => obtain ⟨t', rfl⟩ := ry; exact PySem.EqMixed.eq_int_str (fin_bl I q (by simp))
    | _ => exact absurd (show false = true from hs) Bool.false_ne_true
  | str i =>
    obtain ⟨t, rfl⟩ := rx
    cases y with
    | non => cases ry; exact PySem.EqNone.eq_str_none (fin_bl I q (by simp))
    | bl j => cases ry; exact PySem.EqMixed.eq_str_bool (fin_bl I q (by simp))
    | int j => obtain ⟨t', rfl⟩ := ry; exact PySem.EqMixed.eq_str_int (fin_bl I q (by simp))
    | str j => obtain ⟨t', rfl⟩ := ry; exact eq_str (fin_bl I q dec_str)
    | _ => exact absurd (show false = true from hs) Bool.false_ne_true
  | byt i =>
    obtain ⟨t, rfl⟩ := rx
    cases y with
    | byt j => obtain ⟨t', rfl⟩ := ry; exact PySem.W.eq_bytes (fin_bl I q dec_byt)
    | _ => exact absurd (show false = true from hs) Bool.false_ne_true
  | _ => cases y <;> exact absurd (show false = true from hs) Bool.false_ne_true
theorem op_lt : OpR X (compareOp .Lt) (rI0 fun i j => .bl (decide (i < j))) := opB0 fun _ _ _ _ _ _ _ q => lt_int q
theorem op_gt : OpR X (compareOp .Gt) (rI0 fun i j => .bl (decide (j < i))) := opB0 fun _ _ _ _ _ _ _ q => gt_int q
theorem op_ge : OpR X (compareOp .GtE) (rI0 fun i j => .bl (decide (j ≤ i))) := opB0 fun _ _ _ _ _ _ _ q => ge_int q
theorem op_lt_str : OpR X (compareOp .Lt) (fun x y H Q => ∃ i j, x = .str i ∧ y = .str j ∧ Q (.bl (decide (i.cps.toList < j.cps.toList))) H) := by
  intro pins s σ H x y v u Q I rx ry h
  obtain ⟨i, j, rfl, rfl, q⟩ := h
  obtain ⟨t, rfl⟩ := rx
  obtain ⟨t', rfl⟩ := ry
  exact lt_str (fin_bl I q rfl)
/-- is, is not of two objects that are tracked lists or instances -/
def isObj : HO → Bool
  | .lst _ => true
  | .ins _ _ _ => true
  | _ => false
theorem nomark (b : Expr) {op : CmpOp} (h : op ≠ .In := by decide) (h2 : op ≠ .NotIn := by decide) : behindInMarks op b = false := by
  have e1 : (op == CmpOp.In) = false := by cases op <;> first | rfl | exact absurd rfl h
  have e2 : (op == CmpOp.NotIn) = false := by cases op <;> first | rfl | exact absurd rfl h2
  cases b <;> simp [behindInMarks, e1, e2]
/-- a comparison as a value; hm: nomark b, or (for in, not in) by with_unfolding_all rfl -/
theorem pe_cmpR {op : CmpOp} {r : R2} (ho : OpR X (compareOp op) r) (ha : PE X a ta) (hb : PE X b tb) (hm : behindInMarks op b = false) : PE X (.Compare a [op] [b] pos) (tOp r ta tb) := by
  intro pins s σ H Q I h
  exact wpAny_Compare1 (binT ha hb I h fun v u s2 x y H2 I2 rx ry q => ho pins s2 σ H2 x y v u Q I2 rx ry q) hm
/-- a reading of a value as a test -/
def tTest (t : TE) : TT := fun σ H Q => t σ H fun x H' => ∃ k, x = .bl k ∧ Q k H'
theorem pt_cmpR {op : CmpOp} {r : R2} (ho : OpR X (compareOp op) r) (ha : PE X a ta) (hb : PE X b tb) (hm : behindInMarks op b = false) : PT X (.Compare a [op] [b] pos) (tTest (tOp r ta tb)) := by
  intro pins s σ H Q I h
  refine wpAny_isTrue_Compare1 (thn (ha pins s σ H _ I h) fun v s1 ⟨x, H1, I1, r1, q1⟩ => thn (hb pins s1 σ H1 _ I1 q1) fun u s2 ⟨y, H2, I2, r2, q2⟩ =>
    thn (ho pins s2 σ H2 x y v u _ I2 r1 r2 q2) fun c s3 ⟨z, H3, I3, r3, k, e, q3⟩ => ?_) hm
  subst e
  cases r3
  exact wpAny_truthy_bool ⟨H3, I3, q3⟩
/-- a op1 b op2 c -/
def tChain (r r' : R2) (ta tb tc : TE) : TE := fun σ H Q => ta σ H fun x H1 => tb σ H1 fun y H2 => r x y H2 fun z H3 => ∃ k, z = .bl k ∧
  (if k = true then tc σ H3 fun w' H4 => r' y w' H4 Q else Q (.bl false) H3)
/-! ### truth -/
/-- a value's truth by the abstract heap -/
def TruV (K : PySem.W.Frag) (x : V) (H : Hp) (k : Bool) : Prop :=
  match x with
  | .non => k = false
  | .bl b => k = b
  | .int i => k = (i != 0)
  | .str y => y.length ≤ sizeLine ∧ k = ((y.length : Int) != 0)
  | .byt y => y.size ≤ sizeLine ∧ k = ((y.size : Int) != 0)
  | .ref p => (∃ xs, SqL K H p xs ∧ k = !xs.isEmpty) ∨ (∃ xs, SqT K H p xs ∧ k = !xs.isEmpty) ∨ ∃ kvs, H p = some (.dK kvs) ∧ k = !kvs.isEmpty
  | _ => False
theorem line63 : (sizeLine : Nat) < 2 ^ 63 := by rw [sizeLine_eq]; decide
/-! ### strs and bytes -/
theorem op_add_str : OpR X (binaryOp .Add) (fun x y H Q => ∃ i j, x = .str i ∧ y = .str j ∧ i.length + j.length ≤ sizeLine ∧ Q (.str (i ++ j)) H) := by
  intro pins s σ H x y v u Q I rx ry h
  obtain ⟨i, j, rfl, rfl, hz, q⟩ := h
  obtain ⟨t, rfl⟩ := rx
  obtain ⟨t', rfl⟩ := ry
  exact add_str (fun t' tk => ⟨.str (i ++ j), H, I.tok _, ⟨_, rfl⟩, q⟩) hz
def PlainIxT (b : Expr) : Prop := ∀ o i, subscripted b false o i = operate [o, i] (getItem o i)
/-! ### scalar builtins, by CallR -/
theorem vals1 {x : V} {us : List Value} (r : Vals [x] us) : ∃ u, us = [u] ∧ RelV x u := by
  cases r with
  | cons r1 r2 => cases r2; exact ⟨_, rfl, r1⟩
theorem vals2 {x y : V} {us : List Value} (r : Vals [x, y] us) : ∃ u w', us = [u, w'] ∧ RelV x u ∧ RelV y w' := by
  cases r with
  | cons r1 r2 =>
    cases r2 with
    | cons r3 r4 => cases r4; exact ⟨_, _, rfl, r1, r3⟩
theorem call_abs : CallR X (.builtin "abs") (fun xs H Q => ∃ i, xs = [.int i] ∧ Q (.int (if i < 0 then -i else i)) H) := by
  intro pins s σ H xs us Q I r h
  obtain ⟨i, rfl, q⟩ := h
  obtain ⟨u, rfl, t, rfl⟩ := vals1 r
  exact call_abs_int fun u tk => ⟨.int (if i < 0 then -i else i), H, I.tok _, ⟨_, rfl⟩, q⟩
theorem call_min2 (hc : X.calm = true) : CallR X (.builtin "min") (fun xs H Q => ∃ i j, xs = [.int i, .int j] ∧ Q (.int (if j < i then j else i)) H) := by
  intro pins s σ H xs us Q I r h
  obtain ⟨i, j, rfl, q⟩ := h
  obtain ⟨u, w', rfl, ⟨t, rfl⟩, ⟨t', rfl⟩⟩ := vals2 r
  refine min_two_ints (I.ok.hd hc) fun h' tk k => ⟨_, H, I.kept k, ?_, q⟩
  by_cases hj : j < i
  · rw [if_pos hj, if_pos hj]; exact ⟨_, rfl⟩
  · rw [if_neg hj, if_neg hj]; exact ⟨_, rfl⟩
theorem call_int1 : CallR X (.type "int") (fun xs H Q => (∃ i, xs = [.int i] ∧ Q (.int i) H) ∨ ∃ k, xs = [.bl k] ∧ Q (.int (if k then 1 else 0)) H) := by
  intro pins s σ H xs us Q I r h
  rcases h with ⟨i, rfl, q⟩ | ⟨k, rfl, q⟩
  · obtain ⟨u, rfl, t, rfl⟩ := vals1 r
    exact call_int_int ⟨.int i, H, I, ⟨_, rfl⟩, q⟩
  · obtain ⟨u, rfl, r1⟩ := vals1 r
    cases r1
    exact call_int_bool ⟨.int (if k then 1 else 0), H, I.tok _, ⟨_, rfl⟩, q⟩
/-- len of a str, a bytes, a list, a tuple -/
def LenV (K : PySem.W.Frag) (x : V) (H : Hp) (n : Nat) : Prop :=
  match x with
  | .str y => y.length ≤ sizeLine ∧ n = y.length
  | .byt y => y.size ≤ sizeLine ∧ n = y.size
  | .ref p => (∃ xs, SqL K H p xs ∧ n = xs.length) ∨ ∃ xs, SqT K H p xs ∧ n = xs.length
  | _ => False
end
end L2

namespace L2
open PySem PySem.Spec PyProof.Rows

/-! ### an instance, its attributes a map -/
structure ObjM (h : Heap) (x dx C : Addr) (mA : Str → Option Value) : Prop where
  obj : h.get? x = some (PySem.W.instObj C dx)
  ns : h.Ns1 dx mA
  ne : dx ≠ x

theorem lookIn_ns {h : Heap} {dx : Addr} {mA : Str → Option Value} (n : h.Ns1 dx mA) : ∃ od, h.get? dx = some od ∧ ∀ name, PySem.W.lookIn name od = some (mA name) := by
  obtain ⟨o, es, ep, ho, hd, hk, _, hm⟩ := n
  refine ⟨o, ho, fun name => ?_⟩
  have e := hm name
  unfold nsFind findBy at e
  rw [← Array.find?_toList] at e
  unfold PySem.W.lookIn
  rw [hd]
  dsimp only
  split
  · rename_i y q
    rw [q] at e
    exact congrArg some e
  · rename_i q
    rw [q] at e
    have a : es.toList.any (·.refKey) = false := by
      rw [List.any_eq_false]
      intro y hy
      obtain ⟨z, t, hkey⟩ := hk y (Array.mem_toList_iff.mp hy)
      simp [DictEntry.refKey, hkey]
    have a' : ¬ es.toList.any (·.refKey) = true := by rw [a]; exact Bool.false_ne_true
    rw [if_neg a']
    exact congrArg some e

theorem ObjM.look {h : Heap} {x dx C : Addr} {mA : Str → Option Value} (I : ObjM h x dx C mA) : ∃ od, PySem.W.InstAt h x (PySem.W.instObj C dx) C (some od) ∧ ∀ name, PySem.W.lookIn name od = some (mA name) :=
  let ⟨od, ho, hl⟩ := lookIn_ns I.ns
  ⟨od, ⟨I.obj, rfl, rfl, ho⟩, hl⟩

section
variable {prog : Program} {w : World} {A : Around} {E : Value → Shared → Prop} {s : Shared} {K : PySem.W.Frag} {x dx C f : Addr} {mA : Str → Option Value} {name : Str} {v : Value}

end

/-! ### the attributes as a list of pairs -/
def putF (f : Str) (v : V) : List (Str × V) → List (Str × V)
  | [] => [(f, v)]
  | (g, x) :: r => if g = f then (g, v) :: r else (g, x) :: putF f v r
theorem RelO.some_of {v : V} {o : Option Value} (r : RelO (some v) o) : ∃ u, o = some u ∧ RelV v u := by
  cases o with
  | none => exact (show False from r).elim
  | some u => exact ⟨u, rfl, r⟩
section
variable {P : Program} {w : World} {H H' : Hp} {h h' : Heap} {a C dx : Addr} {fs fs' : List (Str × V)}
theorem ins_get (hok : HOk P w H h) (e : H a = some (.ins C dx fs)) : ∃ mA, ObjM h a dx C mA ∧ (∀ f, RelO (fs.lookup f) (mA f)) ∧ PySem.Within mA (fs.map (·.1)) ∧ fs.length ≤ 1000 ∧ H dx = some (.own a) := by
  obtain ⟨d, z, ne, ob, mA, n, r, q⟩ := (show ObjOk P w H h a (.ins C dx fs) from hok a _ e)
  exact ⟨mA, ⟨ob, n, ne⟩, r, q, z, d⟩
end

/-! ### what of the text a class must have -/
structure Cls (K : PySem.W.Frag) (C : Addr) : Prop where
  pg : PySem.W.plainGet K C Str.empty = true
  hd : PySem.W.hasDictIn K C = true
  po : PySem.W.plainOver K C = true
  sa : PySem.W.findIn K (.ref C) "__setattr__" = some (some (.builtin "object.__setattr__"))
theorem Cls.get {K : PySem.W.Frag} {C : Addr} (c : Cls K C) (f : Str) : PySem.W.plainGet K C f = true := c.pg
/-- no class of it has the name -/
def NoAttr (K : PySem.W.Frag) (C : Addr) (f : Str) : Prop := PySem.W.findIn K (.ref C) f = some none
/-- a constant of the class -/
structure Con (K : PySem.W.Frag) (C : Addr) (f : Str) (v : V) (u : Value) : Prop where
  at_ : PySem.W.findIn K (.ref C) f = some (some u)
  rel : RelV v u
  get : PySem.W.specialIn K u "__get__" = some none
  cp : PySem.W.copiedNames.contains f = false
/-- a method: a plain def of the class or of one above it -/
structure Meth (K : PySem.W.Frag) (C : Addr) (m : Str) (f : Addr) : Prop where
  at_ : PySem.W.findIn K (.ref C) m = some (some (.ref f))
  fn : PySem.W.isFn K (.ref f) = true
  kp : PySem.W.keepIn K (.ref f) = true

section
variable {X : Cx} {pins : List (Addr × Obj)} {σ : St} {H : Hp} {s : Shared} {a C dx : Addr} {fs : List (Str × V)} {f : Str} {v : V} {A : Around} {E : Value → Shared → Prop}

end

/-! ### readings and rules -/
/-- e.f, an attribute of the instance -/
def tFld (K : PySem.W.Frag) (ta : TE) (f : Str) : TE := fun σ H Q => ta σ H fun x H1 => ∃ a C dx fs v, x = .ref a ∧ H1 a = some (.ins C dx fs) ∧ Cls K C ∧ NoAttr K C f ∧ fs.lookup f = some v ∧ Q v H1
/-- e.f, a constant of the class -/
def tCon (K : PySem.W.Frag) (ta : TE) (f : Str) : TE := fun σ H Q => ta σ H fun x H1 => ∃ a C dx fs v u, x = .ref a ∧ H1 a = some (.ins C dx fs) ∧ Cls K C ∧ Con K C f v u ∧ fs.lookup f = none ∧ Q v H1
/-- e.f = value -/
def sFld (K : PySem.W.Frag) (ta tv : TE) (f : Str) : TS := fun D σ H => tv σ H fun y H1 => ta σ H1 fun x H2 => ∃ a C dx fs, x = .ref a ∧ H2 a = some (.ins C dx fs) ∧ Cls K C ∧ NoAttr K C f ∧ fs.length < 1000 ∧
  D.nx σ (upd H2 a (.ins C dx (putF f y fs)))
/-- an augmented operator on two values -/
def InOp (X : Cx) (op : Operator) (rd : V → V → Hp → VK → Prop) : Prop :=
  ∀ (pins : List (Addr × Obj)) (s : Shared) (σ : St) (H : Hp) (x y : V) (u v : Value) (Q : VK), Inv X pins σ H s → RelV x u → RelV y v → rd x y H Q → wpAny (model X.prog X.w) X.A (inplaceOp op u v) (EP X pins σ Q) X.xe s
/-- e.f op= value -/
def sFldAug (K : PySem.W.Frag) (ta tv : TE) (rd : V → V → Hp → VK → Prop) (f : Str) : TS := fun D σ H => ta σ H fun x H1 => ∃ a C dx fs v, x = .ref a ∧ H1 a = some (.ins C dx fs) ∧ Cls K C ∧ NoAttr K C f ∧ fs.lookup f = some v ∧
  tv σ H1 fun y H2 => rd v y H2 fun z H3 => ∃ dx' fs', H3 a = some (.ins C dx' fs') ∧ fs'.length < 1000 ∧ D.nx σ (upd H3 a (.ins C dx' (putF f z fs')))

section
variable {X : Cx} {o e value : Expr} {f : Str} {pos pos' tpos : Pos} {ta tv : TE}
def rAdd : V → V → Hp → VK → Prop := fun x y H Q => ∃ i j, x = .int i ∧ y = .int j ∧ Q (.int (i + j)) H
def rSub : V → V → Hp → VK → Prop := fun x y H Q => ∃ i j, x = .int i ∧ y = .int j ∧ Q (.int (i - j)) H
end

/-! ### isinstance -/
section
variable {X : Cx} {pins : List (Addr × Obj)} {σ : St} {H : Hp} {s : Shared} {A : Around} {E : Value → Shared → Prop} {Q : Value → Shared → Prop} {c : Value} {b : Bool}
/-- the type of a value, as the fragment's deciders take it; for an instance its class -/
inductive TyOf (K : PySem.W.Frag) (H : Hp) : V → Value → Prop where
  | non : TyOf K H .non (.type "NoneType")
  | bl (x : Bool) : TyOf K H (.bl x) (.type "bool")
  | int (i : Int) : TyOf K H (.int i) (.type "int")
  | str (x : Str) : TyOf K H (.str x) (.type "str")
  | flt (x : UInt64) : TyOf K H (.flt x) (.type "float")
  | lst {a : Addr} {xs : List V} (e : H a = some (.lst xs)) : TyOf K H (.ref a) (.type "list")
  | frz {a : Addr} {o : Obj} {xs : List V} (e : H a = some (.frz o (.lst xs))) : TyOf K H (.ref a) (.type "list")
  | tup {a : Addr} {xs : List V} (e : H a = some (.tup xs)) : TyOf K H (.ref a) (.type "tuple")
  | dK {a : Addr} {kvs : List (Key × V)} (e : H a = some (.dK kvs)) : TyOf K H (.ref a) (.type "dict")
  | dT {a : Addr} {kvs : List (List Key × V)} (e : H a = some (.dT kvs)) : TyOf K H (.ref a) (.type "dict")
  | ins {a C dx : Addr} {fs : List (Str × V)} (e : H a = some (.ins C dx fs)) (cl : Cls K C) (ha : PySem.W.findIn K (.ref C) "__class__" = some (some (.builtin "object.__class__")))
      (hn : PySem.W.specialIn K (.builtin "object.__class__") "__get__" = some (some (.builtin "getset_descriptor.__get__"))) (htk : PySem.W.takesIn K (.builtin "object.__class__") = some true)
      (hm : PySem.W.mroIn K C (.type "object") = some true) : TyOf K H (.ref a) (.ref C)
/-- isinstance(x, c) for one class c, a built-in or an own one: kitOne's answer -/
theorem isinst_ok {x : V} {u t : Value} (I : Inv X pins σ H s) (rx : RelV x u) (ty : TyOf X.K H x t) (e : PySem.W.kitOne X.K t c = some b) (h : ∀ tk, Q (.bool b) { s with toks := tk }) :
    wpAny (model X.prog X.w) A (call (.builtin "isinstance") [u, c]) Q E s := by
  cases ty with
  | non => cases (show u = Value.none from rx); exact PySem.W.kia_one PySem.W.kitx_none I.kIn True.intro e (fun z => nomatch z) h
  | bl y => cases (show u = Value.bool y from rx); exact PySem.W.kia_one PySem.W.kitx_bool I.kIn True.intro e (fun z => nomatch z) h
  | int i => obtain ⟨t, q⟩ := (show ∃ t, u = Value.int i t from rx); cases q; exact PySem.W.kia_one PySem.W.kitx_int I.kIn True.intro e (fun z => nomatch z) h
  | str y => obtain ⟨t, q⟩ := (show ∃ t, u = Value.str y t from rx); cases q; exact PySem.W.kia_one PySem.W.kitx_str I.kIn True.intro e (fun z => nomatch z) h
  | flt y => obtain ⟨t, q⟩ := (show ∃ t, u = Value.float y t from rx); cases q; exact PySem.W.kia_one PySem.W.kitx_float I.kIn True.intro e (fun z => nomatch z) h
  | @lst a xs ea =>
    cases (show u = Value.ref a from rx)
    obtain ⟨_, _, n, _, h1⟩ := (show ObjOk X.prog X.w H s.heap a (.lst xs) from I.hok a _ ea)
    exact PySem.W.kia_one PySem.W.kitx_list I.kIn ⟨_, h1, rfl⟩ e (fun z => nomatch z) h
  | @frz a ob xs ea =>
    cases (show u = Value.ref a from rx)
    obtain ⟨_, _, _, n, _, h1⟩ := (show ObjOk X.prog X.w H s.heap a (.frz ob (.lst xs)) from I.hok a _ ea)
    exact PySem.W.kia_one PySem.W.kitx_list I.kIn ⟨_, h1, rfl⟩ e (fun z => nomatch z) h
  | @tup a xs ea =>
    cases (show u = Value.ref a from rx)
    obtain ⟨_, _, _, p⟩ := (show ObjOk X.prog X.w H s.heap a (.tup xs) from I.hok a _ ea)
    obtain ⟨o, h1, h2, _⟩ := p
    exact PySem.W.kia_one PySem.W.kitx_tuple I.kIn ⟨o, h1, h2⟩ e (fun z => nomatch z) h
  | @dK a kvs ea =>
    cases (show u = Value.ref a from rx)
    obtain ⟨_, _, vs, _, p⟩ := (show ObjOk X.prog X.w H s.heap a (.dK kvs) from I.hok a _ ea)
    obtain ⟨o, es, ep, h1, h2, _⟩ := p
    exact PySem.W.kia_one PySem.W.kitx_dict I.kIn ⟨o, h1, h2.1⟩ e (fun z => nomatch z) h
  | @dT a kvs ea =>
    cases (show u = Value.ref a from rx)
    obtain ⟨_, _, xs, _, o, es, ep, h1, h2, _⟩ := (show ObjOk X.prog X.w H s.heap a (.dT kvs) from I.hok a _ ea)
    exact PySem.W.kia_one PySem.W.kitx_dict I.kIn ⟨o, h1, h2.1⟩ e (fun z => nomatch z) h
  | @ins a C dx fs ea cl ha hn htk hm =>
    cases (show u = Value.ref a from rx)
    obtain ⟨mA, O, _⟩ := ins_get I.hok ea
    obtain ⟨od, J, _⟩ := O.look
    exact PySem.W.kia_one (PySem.W.kitx_own (cl.get _) cl.hd ha hn htk hm) I.kIn J e (fun z => nomatch z) h
end
end L2

namespace L2
open PySem PySem.Spec PyProof.Rows

/-! ### room -/
structure Room (k : Nat) (A : Around) : Prop where
  hd : A.handled = none
  dp : A.depth + 3 * k + 5 < recursionLimit
  un : A.units + 16 * k + 200 < cLine
  gd : A.guards = some []
theorem Room.mono {j k : Nat} {A : Around} (r : Room k A) (h : j ≤ k) : Room j A := ⟨r.hd, by have := r.dp; omega, by have := r.un; omega, r.gd⟩
theorem Room.deeper {k : Nat} {A : Around} (r : Room (k + 1) A) (env : Env) : Room k (A.deeper env) :=
  ⟨r.hd, by have := r.dp; show A.depth + 1 + 3 * k + 5 < _; omega, by have := r.un; show A.units + 3 + 16 * k + 200 < _; omega, r.gd⟩
theorem Room.depth {k : Nat} {A : Around} (r : Room k A) : A.depth < recursionLimit := by have := r.dp; omega
theorem Room.units {k : Nat} {A : Around} (r : Room k A) : A.units + 64 < cLine := by have := r.un; omega
/-! ### argument lists and displays -/
def tNil : TA := fun _ H Q => Q [] H
def tCons (ta : TE) (tr : TA) : TA := fun σ H Q => ta σ H fun x H1 => tr σ H1 fun xs H2 => Q (x :: xs) H2
section
variable {X : Cx} {e : Expr} {es : List Expr} {te : TE} {t : TA} {pos : Pos}
theorem pa_nil : PA X [] tNil := fun _ _ _ _ H Q I h => Calls.spliced_nil ⟨[], H, I, .nil, h⟩
theorem pa_cons (ha : PE X e te) (hr : PA X es t) (hs : starEach (e :: es) X.env = (false, eval e X.env) :: starEach es X.env := by rfl) : PA X (e :: es) (tCons te t) := by
  intro pos pins s σ H Q I h
  rw [hs]
  show wpAny _ _ (spliced ((false, eval e X.env) :: backTo pos (starEach es X.env))) _ _ s
  refine Calls.spliced_cons (thn (ha pins s σ H _ I h) fun u s1 ⟨x, H1, I1, r1, q1⟩ => ?_)
  exact thn (hr pos pins s1 σ H1 _ I1 q1) fun us s2 ⟨xs, H2, I2, r2, q2⟩ => ⟨x :: xs, H2, I2, .cons r1 r2, q2⟩

/-- a tuple, a list of written items -/
def tTup (t : TA) : TE := fun σ H Q => t σ H fun xs H1 => xs.length ≤ sizeLine ∧ ∀ p, H1 p = none → Q (.ref p) (upd H1 p (.tup xs))
def tLst (t : TA) : TE := fun σ H Q => t σ H fun xs H1 => xs.length ≤ sizeLine ∧ ∀ p, H1 p = none → Q (.ref p) (upd H1 p (.lst xs))
theorem pe_tup {x1} (h : PA X es t) : PE X (.Tuple es x1 pos) (tTup t) := by
  intro pins s σ H Q I hq
  refine wpAny_Tuple_spliced (thn (h pos pins s σ H _ I hq) fun us s1 ⟨xs, H1, I1, r, z, q⟩ => ⟨by rw [← r.length]; exact z, ?_⟩)
  have hf : H1 s1.heap.objs.size = none := I1.hok.fresh (Nat.le_refl _)
  refine ⟨.ref s1.heap.objs.size, upd H1 s1.heap.objs.size (.tup xs), I1.laid (t' := s1.toks) (fun b u e => Heap.get?_push_of_some _ e) (Nat.le_refl _) ?_, rfl, q _ hf⟩
  exact ⟨z, us, r, ⟨_, Heap.get?_push_size _ rfl, rfl, _, rfl⟩⟩
theorem pe_lst (h : PA X es t) : PE X (.List es pos) (tLst t) := by
  intro pins s σ H Q I hq
  refine wpAny_List_spliced (thn (h pos pins s σ H _ I hq) fun us s1 ⟨xs, H1, I1, r, z, q⟩ => ⟨by rw [← r.length]; exact z, ?_⟩)
  have hf : H1 s1.heap.objs.size = none := I1.hok.fresh (Nat.le_refl _)
  refine ⟨.ref s1.heap.objs.size, upd H1 s1.heap.objs.size (.lst xs), I1.laid (t' := s1.toks) (fun b u e => Heap.get?_push_of_some _ e) (Nat.le_refl _) ?_, rfl, q _ hf⟩
  exact ⟨z, us, 0, r, Heap.get?_push_size _ rfl⟩
end

/-! ### what a def promises -/
/-- a def's promise: the bound arguments in the parameters' order, the heap, the wanted end, the wanted exception -/
abbrev Sp := List V → Hp → VK → XK → Prop
/-- how an exception lies behind a call (file 08 gives it): the callers' frames, abstract heap and state ahead of the call, the wish, the exception, the state -/
abbrev CXT := List Env → Hp → Shared → XK → Value → Shared → Prop

/-- the state at a call -/
structure Env0 (P : Program) (w : World) (K : PySem.W.Frag) (mg : Str → Option Value) (base : Heap) (A : Around) (outer : List Env) (s : Shared) (H : Hp) : Prop where
  frames : A.frames = some outer
  mod : Mod K mg base
  bs : ∀ b o, base.get? b = some o → s.heap.get? b = some o ∧ H b = none
  bsz : base.objs.size ≤ s.heap.objs.size
  funs : s.heap.FunFrames base outer
  frf : ∀ b ∈ frs outer, H b = none
  hok : HOk P w H s.heap
  bare : AllBare s.gens
/-- a call's end -/
def CE (outer : List Env) (P : Program) (w : World) (H : Hp) (s : Shared) (Q : VK) (u : Value) (s' : Shared) : Prop :=
  ∃ v H', s'.os = s.os ∧ AllBare s'.gens ∧ Un (frs outer) [] H H' s.heap s'.heap ∧ HOk P w H' s'.heap ∧ RelV v u ∧ Q v H'
def CR (CX : CXT) (outer : List Env) (P : Program) (w : World) (H : Hp) (s : Shared) (Q : VK) (E : XK) (r : Result) (s' : Shared) : Prop :=
  match r with
  | .ok (.ret u) => CE outer P w H s Q u s'
  | .ok _ => False
  | .error e => CX outer H s E e s'
structure FnOk (P : Program) (w : World) (K : PySem.W.Frag) (mg : Str → Option Value) (base : Heap) (CX : CXT) (k : Nat) (f : Addr) (fd : FuncData) (ps : List Str) (sp : Sp) : Prop where
  len : ∀ vs H Q E, sp vs H Q E → vs.length = ps.length
  run : ∀ (A : Around) (outer : List Env) (s : Shared) (H : Hp) (args : Args) (us : List Value) (vs : List V) (Q : VK) (E : XK), Room k A → Env0 P w K mg base A outer s H → BindsTo s fd args (ps.zip us) → Vals vs us → sp vs H Q E →
    codeAny (model P w) A (.call (.ref f) args) (CR CX outer P w H s Q E) s
section
variable {X : Cx} {pins : List (Addr × Obj)} {σ : St} {H : Hp} {s s' : Shared}
/-- from a body: what a callee wants -/
theorem Inv.env0 (I : Inv X pins σ H s) : Env0 X.prog X.w X.K X.mg X.base X.A X.stack s H :=
  ⟨I.ok.frames, I.ok.mod, I.bs, Nat.le_trans I.ok.bsz I.sz, I.stack, I.stkFree, I.hok, I.bare⟩
/-- behind a call -/
theorem Inv.after {Q : VK} {u : Value} (I : Inv X pins σ H s) (h : CE X.stack X.prog X.w H s Q u s') : EP X pins σ Q u s' := by
  obtain ⟨v, H', os, bare, un, hok, r, q⟩ := h
  obtain ⟨hh, g, d, t, os'⟩ := s'
  obtain rfl : os' = s.os := os
  exact ⟨v, H', I.call (h' := hh) (g' := g) (d' := d) (t' := t) (ch := []) un hok bare (fun b z => absurd z (by simp)), r, q⟩
end

/-! ### calls -/
/-- f(..): the written arguments, then the defaults dvs; E: what is wanted of an exception -/
def tCall (sp : Sp) (dvs : List V) (E : XK) (t : TA) : TE := fun σ H Q => t σ H fun vs H1 => sp (vs ++ dvs) H1 Q E
/-- o.m(..) of an instance of the class at C -/
def tMeth (C : Addr) (m : Str) (sp : Sp) (dvs : List V) (E : XK) (ta : TE) (t : TA) : TE := fun σ H Q => ta σ H fun x H1 => ∃ a dx fs, x = .ref a ∧ H1 a = some (.ins C dx fs) ∧ fs.lookup m = none ∧
  t σ H1 fun vs H2 => sp (x :: (vs ++ dvs)) H2 Q E
/-- C(..): a new instance and its dict, then __init__ -/
def tMake (C : Addr) (sp : Sp) (dvs : List V) (E : XK) (t : TA) : TE := fun σ H Q => t σ H fun vs H1 => ∀ x dx, H1 x = none → H1 dx = none → dx ≠ x →
  sp (.ref x :: (vs ++ dvs)) (upd (upd H1 dx (.own x)) x (.ins C dx [])) (fun v H2 => v = .non ∧ Q (.ref x) H2) E

/-- how the parameters are bound: us the positional arguments, kw the keywords' values by name, ds the defaults that fill up -/
def Binds (K : PySem.W.Frag) (fd : FuncData) (ps : List Str) (ds : List Value) : Prop :=
  ∀ (s : Shared) (us : List Value), K.In s.heap → (us ++ ds).length = ps.length → BindsTo s fd ⟨us, []⟩ (ps.zip (us ++ ds))
/-- every parameter is given -/
theorem Binds.all {K : PySem.W.Frag} {fd : FuncData} {ps : List Str} (h : ∀ us : List Value, us.length = ps.length → bindArgs fd ⟨us, []⟩ = pure (ps.zip us)) : Binds K fd ps [] := fun s us _ hl => by
  rw [List.append_nil] at hl ⊢
  exact .of_eq (h us hl)

/-- an exception of a callee reaches what this body wants of exceptions -/
def Passes (CX : CXT) (X : Cx) (E : XK) : Prop := ∀ (pins : List (Addr × Obj)) (σ : St) (H : Hp) (s : Shared) (e : Value) (s' : Shared), Inv X pins σ H s → CX X.stack H s E e s' → X.xe e s'

section
variable {X : Cx} {CX : CXT} {k : Nat} {f C : Addr} {fd : FuncData} {ps : List Str} {sp : Sp} {dvs : List V} {ds : List Value} {E : XK} {x m : Str} {p pos apos : Pos} {e o : Expr} {es : List Expr} {ta : TE} {t : TA}

/-- the callee runs -/
theorem run_fn {pins : List (Addr × Obj)} {σ : St} {H : Hp} {s : Shared} {Q : VK} {us : List Value} {vs : List V} (F : FnOk X.prog X.w X.K X.mg X.base CX k f fd ps sp) (hr : Room k X.A) (hb : Binds X.K fd ps ds) (hd : Vals dvs ds) (hx : Passes CX X E)
    (I : Inv X pins σ H s) (r : Vals vs us) (h : sp (vs ++ dvs) H Q E) : wpAny (model X.prog X.w) X.A (call (.ref f) us) (EP X pins σ Q) X.xe s := by
  have r2 : Vals (vs ++ dvs) (us ++ ds) := r.append hd
  have hl : (us ++ ds).length = ps.length := by rw [← r2.length]; exact F.len _ _ _ _ h
  refine wpAny_call (codeAny_mono (F.run X.A X.stack s H ⟨us, []⟩ (us ++ ds) (vs ++ dvs) Q E hr I.env0 (hb s us I.kIn hl) r2 h) fun r s' hq => ?_)
  cases r with
  | error e => exact hx pins σ H s e s' I hq
  | ok fl =>
    cases fl with
    | ret u => exact I.after hq
    | next => exact False.elim hq
    | brk => exact False.elim hq
    | cont => exact False.elim hq

theorem pe_call (F : FnOk X.prog X.w X.K X.mg X.base CX k f fd ps sp) (hr : Room k X.A) (hg : Gl X x) (hm : X.mg x = some (.ref f)) (hk : PySem.W.keepIn X.K (.ref f) = true) (hb : Binds X.K fd ps ds) (hd : Vals dvs ds) (hx : Passes CX X E)
    (ha : PA X (e :: es) t) (hdb : (x == ("__debug__" : Str)) = false := by decide) (he : starEach (e :: es) X.env = (false, eval e X.env) :: starEach es X.env := by rfl) (hpl : (backTo pos (starEach es X.env)).any (·.1) = false := by rfl) :
    PE X (.Call (.Name x p) (e :: es) [] pos) (tCall sp dvs E t) := by
  intro pins s σ H Q I h
  refine wpAny_Call_Name_kw (ld_glob I hg hm ?_ hdb)
  refine PySem.W.callWith_K (h₀ := X.base) I.ok.mod.kin hk (thn (ha pos pins s σ H _ I h) fun us s1 ⟨vs, H1, I1, r, q⟩ => ⟨I1.kIn, ?_⟩) he hpl
  exact run_fn F hr hb hd hx I1 r q
/-- what a class must have to be made -/
structure Mk (K : PySem.W.Frag) (C f : Addr) : Prop where
  makes : PySem.W.makesIn K C = true
  init : PySem.W.findIn K (.ref C) "__init__" = some (some (.ref f))
  fn : PySem.W.isFn K (.ref f) = true
  kp : PySem.W.keepIn K (.ref C) = true

end

/-! ### keywords -/
/-- the values of the keywords, from the left -/
def PK (X : Cx) (kws : List Keyword) (t : TA) : Prop :=
  ∀ (pos : Pos) (pins : List (Addr × Obj)) (s : Shared) (σ : St) (H : Hp) (Q : List V → Hp → Prop), Inv X pins σ H s → t σ H Q → wpAny (model X.prog X.w) X.A (evalAll ((backToKw pos (keywordEach kws X.env)).map (·.2))) (AP X pins σ Q) X.xe s
section
variable {X : Cx} {CX : CXT} {k : Nat} {f C : Addr} {fd : FuncData} {ps ks : List Str} {sp : Sp} {E : XK} {x m : Str} {p pos apos kpos : Pos} {e o : Expr} {es : List Expr} {kws : List Keyword} {te ta : TE} {t tk : TA} {nm : Option Str}
/-- how a call with keywords binds: g puts the positional values us and the keywords' values ws (names ks) in the parameters' order, defaults among them -/
structure KBinds (K : PySem.W.Frag) (fd : FuncData) (ps ks : List Str) (g : List Value → List Value → List Value) (gV : List V → List V → List V) : Prop where
  to : ∀ (s : Shared) (us ws : List Value), K.In s.heap → (g us ws).length = ps.length → BindsTo s fd ⟨us, ks.zip ws⟩ (ps.zip (g us ws))
  rel : ∀ {vs : List V} {us : List Value} {zs : List V} {ws : List Value}, Vals vs us → Vals zs ws → Vals (gV vs zs) (g us ws)
def tCallK (sp : Sp) (gV : List V → List V → List V) (E : XK) (t tk : TA) : TE := fun σ H Q => t σ H fun vs H1 => tk σ H1 fun zs H2 => sp (gV vs zs) H2 Q E
variable {g : List Value → List Value → List Value} {gV : List V → List V → List V}
end

/-! ### a def's body keeps its promise -/
/-- names: the parameters first -/
structure FnScope (N P : List Str) (sc : Scope) : Prop where
  kind : sc.kind = .function
  co : sc.isCoroutine = false
  gen : sc.isGenerator = false
  nd : N.Nodup
  pre : N.take P.length = P
  par : ∀ x ∈ P, sc.names.lookup x = some .local ∨ sc.names.lookup x = some .cell
  nofree : ∀ y ∈ sc.names, y.2 ≠ .free

theorem bindL_out {kindOf : Str → Option NameKind} {x : Str} : ∀ {binds : List (Str × Value)} {m : Str → Option Value}, (∀ v, (x, v) ∉ binds) → bindL kindOf binds m x = m x
  | [], _, _ => rfl
  | (n, v) :: r, m, h => by
    unfold bindL
    rw [bindL_out fun w hw => h w (List.mem_cons_of_mem _ hw)]
    split
    · have : x ≠ n := by rintro rfl; exact h v List.mem_cons_self
      simp [this]
    · rfl
theorem bindC_out {kindOf : Str → Option NameKind} {x : Str} : ∀ {binds : List (Str × Value)} {m : Str → Option Value}, (∀ v, (x, v) ∉ binds) → bindC kindOf binds m x = m x
  | [], _, _ => rfl
  | (n, v) :: r, m, h => by
    unfold bindC
    rw [bindC_out fun w hw => h w (List.mem_cons_of_mem _ hw)]
    split
    · rfl
    · have : x ≠ n := by rintro rfl; exact h v List.mem_cons_self
      simp [this]
theorem bindL_get {kindOf : Str → Option NameKind} {x : Str} {v : Value} : ∀ {P : List Str} {vs : List Value} {i : Nat} {m : Str → Option Value}, P.Nodup → P[i]? = some x → vs[i]? = some v → kindOf x = some .local →
    bindL kindOf (P.zip vs) m x = some v
  | [], _, _, _, _, h, _, _ => by simp at h
  | _ :: _, [], _, _, _, _, h, _ => by simp at h
  | p :: P, w :: vs, 0, m, nd, h1, h2, hk => by
    simp at h1 h2; subst h1; subst h2
    show bindL kindOf ((p, w) :: P.zip vs) m p = _
    unfold bindL
    rw [bindL_out fun v hv => (List.nodup_cons.mp nd).1 (List.of_mem_zip hv).1, if_pos hk]
    simp
  | p :: P, w :: vs, i + 1, m, nd, h1, h2, hk => by
    show bindL kindOf ((p, w) :: P.zip vs) m x = _
    unfold bindL
    exact bindL_get (i := i) (List.nodup_cons.mp nd).2 (by simpa using h1) (by simpa using h2) hk
theorem bindC_get {kindOf : Str → Option NameKind} {x : Str} {v : Value} : ∀ {P : List Str} {vs : List Value} {i : Nat} {m : Str → Option Value}, P.Nodup → P[i]? = some x → vs[i]? = some v → kindOf x ≠ some .local →
    bindC kindOf (P.zip vs) m x = some v
  | [], _, _, _, _, h, _, _ => by simp at h
  | _ :: _, [], _, _, _, _, h, _ => by simp at h
  | p :: P, w :: vs, 0, m, nd, h1, h2, hk => by
    simp at h1 h2; subst h1; subst h2
    show bindC kindOf ((p, w) :: P.zip vs) m p = _
    unfold bindC
    rw [bindC_out fun v hv => (List.nodup_cons.mp nd).1 (List.of_mem_zip hv).1, if_neg hk]
    simp
  | p :: P, w :: vs, i + 1, m, nd, h1, h2, hk => by
    show bindC kindOf ((p, w) :: P.zip vs) m x = _
    unfold bindC
    exact bindC_get (i := i) (List.nodup_cons.mp nd).2 (by simpa using h1) (by simpa using h2) hk

/-- the names' values at the entry -/
def start (N : List Str) (vs : List V) : St := vs.map some ++ List.replicate (N.length - vs.length) none

/-- the context of a def's body, at its entry; an exception leaves the frame, then lies as CX says -/
def cxOf (CX : CXT) (P : Program) (w : World) (K : PySem.W.Frag) (mg : Str → Option Value) (base : Heap) (N : List Str) (qual : Str) (scope : Scope) (f : Addr) (cd : Value) (A : Around) (outer : List Env) (s : Shared) (H : Hp) (E : XK) : Cx where
  prog := P
  w := w
  K := K
  mg := mg
  base := base
  A := A.deeper (envOfC qual scope s.heap.objs.size f cd)
  N := N
  s₀ := s
  H₀ := H
  env := envOfC qual scope s.heap.objs.size f cd
  outer := outer
  stack := envOfC qual scope s.heap.objs.size f cd :: outer
  ex := []
  calm := true
  fn := fun _ => true
  pn := []
  xe := fun e s' => wpAny (model P w) (A.deeper (envOfC qual scope s.heap.objs.size f cd)) (leaving (envOfC qual scope s.heap.objs.size f cd) e) (fun _ s'' => CX outer H s E e s'') (fun e' s'' => CX outer H s E e' s'') s'

theorem cell_has {sc : Scope} {n : Nat} {x : Str} (h : sc.names.lookup x = some .cell) : ∃ c, (cellsFrom n sc.names []).lookup x = some c := by
  have q := PySem.W.cellsFrom_some sc.names n [] (.inl h)
  exact Option.isSome_iff_exists.mp q

theorem inv_start {CX : CXT} {P : Program} {w : World} {K : PySem.W.Frag} {mg : Str → Option Value} {base : Heap} {N ps : List Str} {qual : Str} {scope : Scope} {f : Addr} {cd : Value} {A : Around} {outer : List Env} {s s1 : Shared} {H : Hp} {E : XK} {us : List Value} {vs : List V}
    (S : FnScope N ps scope) (hd : A.handled = none) (e0 : Env0 P w K mg base A outer s H) (hl : vs.length = ps.length) (r : Vals vs us)
    (x : InCallC s s.heap.objs.size (bindL (envOfC qual scope s.heap.objs.size f cd).kindOf (ps.zip us) fun _ => none) (cellsFrom (s.heap.objs.size + 1) scope.names []) (bindC (envOfC qual scope s.heap.objs.size f cd).kindOf (ps.zip us) fun _ => none) s1) :
    Inv (cxOf CX P w K mg base N qual scope f cd A outer s H E) [] (start N vs) H s1 := by
  have hpl : ps.length ≤ N.length := by have := congrArg List.length S.pre; rw [List.length_take] at this; omega
  obtain ⟨h1, tk, rfl, hk⟩ := x.done
  have noA : ∀ b : Addr, b ∉ (cxOf CX P w K mg base N qual scope f cd A outer s H E).ex := fun b z => absurd (show b ∈ ([] : List Addr) from z) (by simp)
  refine ⟨⟨e0.mod, S.kind, rfl, rfl, Nat.le_refl _, fun y z c h1 h2 => ?_, fun y hy => ?_, fun y c _ h => ?_, fun _ => hd, Around.frames_deeper e0.frames, .inr ⟨rfl, rfl⟩, fun b z => absurd z (noA b), e0.bs, e0.bsz, fun b _ _ => noA b, fun b z => absurd z (noA b), e0.funs, e0.frf⟩,
    rfl, e0.bare, Un.kept hk, ⟨_, x.toInCall.ns, fun i y v h1 h2 h3 => ?_⟩, fun y c h => ⟨_, x.cell y c h⟩, e0.hok.fresh (Nat.le_refl _), fun y c h => ?_, fun p hp => absurd (show p ∈ ([] : List (Addr × Obj)) from hp) (by simp), e0.hok.kept hk, ?_⟩
  · exact name_of_addr x.apart (PySem.mem_of_lookup h1) (PySem.mem_of_lookup h2)
  · have hy : scope.names.lookup y = some .cell ∨ scope.names.lookup y = some .free := hy
    rcases hy with hy | hy
    · exact cell_has hy
    · exact absurd rfl (S.nofree _ (PySem.mem_of_lookup hy))
  · exact Nat.le_of_lt (x.above y c (PySem.mem_of_lookup h))
  · have hi : i < vs.length := by
      unfold start at h2
      by_cases hi : i < vs.length
      · exact hi
      · rw [List.getElem?_append_right (by simpa using hi)] at h2
        rw [List.getElem?_replicate] at h2
        split at h2 <;> cases h2
    have ha : vs[i]? = some v := by
      unfold start at h2
      rw [List.getElem?_append_left (by simpa using hi), List.getElem?_map] at h2
      cases e : vs[i]? with
      | none => rw [e] at h2; cases h2
      | some a => rw [e] at h2; cases h2; rfl
    obtain ⟨u, hu, rv⟩ := r.get ha
    have hp : ps[i]? = some y := by
      rw [← S.pre, List.getElem?_take_of_lt (by omega)]; exact h1
    have ndP : ps.Nodup := by rw [← S.pre]; exact S.nd.sublist (List.take_sublist _ _)
    refine ⟨u, rv, ?_⟩
    rcases S.par y (List.mem_of_getElem? hp) with k | k
    · exact .inl ⟨k, bindL_get ndP hp hu k⟩
    · obtain ⟨c, e⟩ := cell_has (n := s.heap.objs.size + 1) k
      refine .inr ⟨.inl k, c, e, ?_⟩
      have q := x.cell y c e
      rw [bindC_get ndP hp hu (by show scope.names.lookup y ≠ _; rw [k]; decide)] at q
      exact q
  · exact e0.hok.fresh (Nat.le_of_lt (x.above y c (PySem.mem_of_lookup h)))
  · unfold start
    show _ = N.length
    rw [List.length_append, List.length_map, List.length_replicate]
    omega

/-- THE RULE: a def (or a method) of the text, by its body. The body's reading t is chosen for each entry; it is run at the parameters' values -/
theorem fn_of {CX : CXT} {P : Program} {w : World} {K : PySem.W.Frag} {mg : Str → Option Value} {base : Heap} {k : Nat} {f : Addr} {name qual : Str} {params : Arguments} {body : List Stmt} {scope : Scope} {dV kV doc pm cdv ct oc : Value} {an od : Option Addr}
    {osl : Array (Option Value)} {N ps : List Str} {sp : Sp} (lk : K.lookup f = some ⟨oc, od, .func (PySem.W.fnOf name qual params body scope dV kV doc pm an cdv ct), osl⟩) (hcd : PySem.W.codeIn K cdv qual = true) (S : FnScope N ps scope)
    (len : ∀ vs H Q E, sp vs H Q E → vs.length = ps.length)
    (hbody : ∀ (A : Around) (outer : List Env) (s : Shared) (H : Hp) (vs : List V) (Q : VK) (E : XK), Room k (A.deeper (envOfC qual scope s.heap.objs.size f cdv)) → sp vs H Q E →
      ∃ t, PSs (cxOf CX P w K mg base N qual scope f cdv A outer s H E) body t ∧ t { nx := fun _ H' => Q .non H', rt := Q } (start N vs) H) :
    FnOk P w K mg base CX (k + 1) f (PySem.W.fnOf name qual params body scope dV kV doc pm an cdv ct) ps sp := by
  refine ⟨len, fun A outer s H args us vs Q E hr e0 hb r hsp => ?_⟩
  have hl := len _ _ _ _ hsp
  have KX : K.In s.heap := e0.mod.kin.keeps fun b o e => (e0.bs b o e).1
  have lim : s.heap.NoLimit := e0.mod.nolimit.keeps fun b o e => (e0.bs b o e).1
  have hkind : ∀ y ∈ ps.zip us, scope.names.lookup y.1 = some .local ∨ (scope.names.lookup y.1 = some .cell ∧ ((cellsFrom (s.heap.objs.size + 1) scope.names []).lookup y.1).isSome = true) := fun ⟨n, v⟩ hy => by
    rcases S.par n (List.of_mem_zip hy).1 with q | q
    · exact .inl q
    · exact .inr ⟨q, PySem.W.cellsFrom_some _ _ _ (.inl q)⟩
  refine codeAny_call_function hr.depth (KX _ _ lk) rfl S.co S.gen rfl (PySem.W.codeRec_of KX hcd) (hb _ _ _ _ ?_)
  refine wpAny_newFunctionEnv_cells S.kind hkind fun env he s1 x => ?_
  subst he
  refine ⟨lim.keeps x.toInCall.keep, codeAny_func ?_⟩
  obtain ⟨t, ht, hq⟩ := hbody A outer s H vs Q E (hr.deeper _) hsp
  have I : Inv (cxOf CX P w K mg base N qual scope f cdv A outer s H E) [] (start N vs) H s1 := inv_start S hr.hd e0 hl r x
  refine wpAny_mono (ht [] s1 (start N vs) H _ I hq) (fun fl s' hs => ?_) fun e s' hs => hs
  have fin : ∀ {σ' : St} {H' : Hp} {v : V} {u : Value}, Inv (cxOf CX P w K mg base N qual scope f cdv A outer s H E) [] σ' H' s' → RelV v u → Q v H' → CE outer P w H s Q u s' :=
    fun {σ' H' v u} J rv q => ⟨v, H', J.os, J.bare, J.base, J.hok, rv, q⟩
  cases fl with
  | ret u =>
    obtain ⟨v, σ', H', J, rv, q⟩ := hs
    exact fin J rv q
  | next =>
    obtain ⟨σ', H', J, q⟩ := hs
    exact fin (v := V.non) (u := Value.none) J rfl q
  | brk =>
    obtain ⟨_, _, _, q⟩ := hs
    exact False.elim q
  | cont =>
    obtain ⟨_, _, _, q⟩ := hs
    exact False.elim q
end L2

namespace L2
open PySem PySem.Spec PyProof.Rows
section
variable {X : Cx} {x : Str} {p pos : Pos} {e : Expr} {es : List Expr} {t : TA} {id T : String} {r : List V → Hp → VK → Prop}

def tCB (r : List V → Hp → VK → Prop) (t : TA) : TE := fun σ H Q => t σ H fun vs H1 => r vs H1 Q
/-- f(e, ..), f a built-in function -/
theorem pe_callB (hc : CallR X (.builtin id) r) (hg : Gl X x) (hm : X.mg x = none) (hv : bootBuiltins x = some (.builtin id)) (ha : PA X (e :: es) t) (hn : x ≠ "__name__" := by decide) (hdb : (x == ("__debug__" : Str)) = false := by decide)
    (he : starEach (e :: es) X.env = (false, eval e X.env) :: starEach es X.env := by rfl) (hpl : (backTo pos (starEach es X.env)).any (·.1) = false := by rfl) : PE X (.Call (.Name x p) (e :: es) [] pos) (tCB r t) := by
  intro pins s σ H Q I h
  refine wpAny_Call_Name_kw (ld_blt I hg hm hv ?_ hn hdb)
  exact PyProof.Rows.callWith_builtin1 (thn (ha pos pins s σ H _ I h) fun us s1 ⟨vs, H1, I1, r1, q1⟩ => hc pins s1 σ H1 vs us Q I1 r1 q1) he hpl
/-- T(e, ..), T a built-in type -/
theorem pe_callTy (hc : CallR X (.type T) r) (hg : Gl X x) (hm : X.mg x = none) (hv : bootBuiltins x = some (.type T)) (ha : PA X (e :: es) t) (hn : x ≠ "__name__" := by decide) (hdb : (x == ("__debug__" : Str)) = false := by decide)
    (he : starEach (e :: es) X.env = (false, eval e X.env) :: starEach es X.env := by rfl) (hpl : (backTo pos (starEach es X.env)).any (·.1) = false := by rfl) : PE X (.Call (.Name x p) (e :: es) [] pos) (tCB r t) := by
  intro pins s σ H Q I h
  refine wpAny_Call_Name_kw (ld_blt I hg hm hv ?_ hn hdb)
  exact PyProof.Rows.callWith_type1 (thn (ha pos pins s σ H _ I h) fun us s1 ⟨vs, H1, I1, r1, q1⟩ => hc pins s1 σ H1 vs us Q I1 r1 q1) he hpl
end
end L2

namespace HT
open PySem PyProof.Rows

/-- t < u of tuples of ints -/
def lexLt : List Int → List Int → Bool
  | [], [] => false
  | [], _ :: _ => true
  | _ :: _, [] => false
  | x :: xs, y :: ys => if x = y then lexLt xs ys else decide (x < y)
theorem lexLt_cons (x y : Int) (xs ys : List Int) : lexLt (x :: xs) (y :: ys) = if x = y then lexLt xs ys else decide (x < y) := rfl
theorem lexLt_nil_nil : lexLt [] [] = false := rfl
theorem lexLt_nil_cons (y : Int) (ys : List Int) : lexLt [] (y :: ys) = true := rfl
theorem lexLt_cons_nil (x : Int) (xs : List Int) : lexLt (x :: xs) [] = false := rfl

section
open PySem.SeqAt
open PySem.AutoSeq1 (wpAny_loadPart')
open PySem.MeetsSeq PySem.MeetsSeq2 PySem.MeetsSeq3

end

section
variable {prog : Program} {w : World} {A : Around} {E : Value → Shared → Prop} {s : Shared}

/-! ### t[a:b], not the whole -/
/-- a slice's bound as a place among n (d where it is left out) -/
def sIx (n d : Nat) : Option Int → Nat
  | none => d
  | some v => if v < 0 then (v + (n : Int)).toNat else min v.toNat n
theorem sIx_none (n d : Nat) : sIx n d none = d := rfl
theorem sIx_nat (n d k : Nat) : sIx n d (some (k : Int)) = min k n := by
  show (if (k : Int) < 0 then ((k : Int) + (n : Int)).toNat else min (k : Int).toNat n) = min k n
  rw [if_neg (by omega), Int.toNat_natCast]
end
end HT

namespace L2
open PySem PySem.Spec PyProof.Rows

/-! ### the parts of a slice -/
abbrev TO := St → Hp → (Option Int → Hp → Prop) → Prop
/-- a slice's part (left out, or an int) -/
def PO (X : Cx) (e : Option Expr) (t : TO) : Prop :=
  ∀ (pins : List (Addr × Obj)) (s : Shared) (σ : St) (H : Hp) (Q : Option Int → Hp → Prop), Inv X pins σ H s → t σ H Q →
    wpAny (model X.prog X.w) X.A (evalPart e X.env) (fun u s' => ∃ o H', Inv X pins σ H' s' ∧ IsPart u o ∧ Q o H') X.xe s
def tNoPart : TO := fun _ H Q => Q none H
def tPart (t : TE) : TO := fun σ H Q => t σ H fun x H1 => ∃ i, x = .int i ∧ Q (some i) H1

section
variable {X : Cx} {e : Expr} {te : TE} {lo hi : Option Expr} {tl th : TO} {pos p2 : Pos}

theorem po_none : PO X none tNoPart := by
  intro pins s σ H Q I h
  rw [evalPart_none]
  exact wpAny_pure ⟨none, H, I, .none, h⟩
theorem po_some (h : PE X e te) : PO X (some e) (tPart te) := by
  intro pins s σ H Q I hw
  rw [evalPart_some]
  refine thn (h pins s σ H _ I hw) fun u s1 ⟨x, H1, I1, r1, q1⟩ => ?_
  obtain ⟨i, rfl, q⟩ := q1
  obtain ⟨t, rfl⟩ := r1
  exact ⟨some i, H1, I1, .int i t, q⟩

/-- what a slice of a value is, by values: the slice object stands at sl -/
def SlR (X : Cx) (r : V → Option Int → Option Int → Hp → VK → Prop) : Prop :=
  ∀ (pins : List (Addr × Obj)) (s : Shared) (σ : St) (H : Hp) (x : V) (v vl vu : Value) (lo hi : Option Int) (sl : Addr) (Q : VK), Inv X pins σ H s → RelV x v → s.heap.IsSliceOf sl vl vu .none → IsPart vl lo → IsPart vu hi → r x lo hi H Q →
    ∃ T id, typeLookup (.type T) "__getitem__" = pure (some (.builtin id)) ∧ s.TypeIs v T ∧ wpAny (model X.prog X.w) X.A (getItem v (.ref sl)) (EP X pins σ Q) X.xe s
def tSl (r : V → Option Int → Option Int → Hp → VK → Prop) (te : TE) (tl th : TO) : TE := fun σ H Q => te σ H fun x H1 => tl σ H1 fun l H2 => th σ H2 fun u H3 => r x l u H3 Q
/-- a[lo:hi], any a -/
theorem pe_slice {r : V → Option Int → Option Int → Hp → VK → Prop} (hr : SlR X r) (he : PE X e te) (hl : PO X lo tl) (hu : PO X hi th) : PE X (.Subscript e (.Slice lo hi none p2) pos) (tSl r te tl th) := by
  intro pins s σ H Q I h
  refine Subscript_ (thn (he pins s σ H _ I h) fun v s1 ⟨x, H1, I1, r1, q1⟩ => ?_)
  refine wpAny_Slice (thn (hl pins s1 σ H1 _ I1 q1) fun vl s2 ⟨l, H2, I2, pl, q2⟩ => thn (hu pins s2 σ H2 _ I2 q2) fun vu s3 ⟨u, H3, I3, pu, q3⟩ => ?_)
  rw [evalPart_none]
  refine wpAny_pure ?_
  have I4 : Inv X pins σ H3 { s3 with heap := s3.heap.push { cls := .type "slice", data := .fields #[vl, vu, .none] } } := I3.kept (t' := s3.toks) fun b ob q => Heap.get?_push_of_some _ q
  obtain ⟨T, id, hT, ht, hg⟩ := hr pins { s3 with heap := s3.heap.push { cls := .type "slice", data := .fields #[vl, vu, .none] } } σ H3 x v vl vu l u s3.heap.objs.size Q I4 r1 (Heap.IsSliceOf.new ..) pl pu q3
  show wpAny (model X.prog X.w) X.A (subscriptTail e (.Slice lo hi none p2) v (.ref s3.heap.objs.size)) (EP X pins σ Q) X.xe { s3 with heap := s3.heap.push { cls := .type "slice", data := .fields #[vl, vu, .none] } }
  exact tail_any (ops := [.ref s3.heap.objs.size, v]) ht hT hg (by with_unfolding_all rfl)

/-- the items of xs[lo:hi] -/
def cutV (xs : List V) (lo hi : Option Int) : List V := (xs.drop (HT.sIx xs.length 0 lo)).take (HT.sIx xs.length xs.length hi - HT.sIx xs.length 0 lo)
theorem cutV_length (xs : List V) (lo hi : Option Int) : (cutV xs lo hi).length ≤ xs.length := by
  unfold cutV
  rw [List.length_take, List.length_drop]
  omega
/-- t[lo:hi], not the whole of it (the whole would be t itself) -/
def rSlT (K : PySem.W.Frag) : V → Option Int → Option Int → Hp → VK → Prop := fun x lo hi H Q => ∃ a xs, x = .ref a ∧ SqT K H a xs ∧
  ¬ (HT.sIx xs.length 0 lo = 0 ∧ HT.sIx xs.length xs.length hi = xs.length) ∧ ∀ p, H p = none → Q (.ref p) (upd H p (.tup (cutV xs lo hi)))
/-! ### t < u, t + u -/
def rLtT (K : PySem.W.Frag) : R2 := fun x y H Q => ∃ a b ns ms, x = .ref a ∧ y = .ref b ∧ SqT K H a (ns.map V.int) ∧ SqT K H b (ms.map V.int) ∧ Q (.bl (HT.lexLt ns ms)) H
/-- t + u, t not empty: u empty gives t itself -/
def rCatT (K : PySem.W.Frag) : R2 := fun x y H Q => ∃ a b xs ys, x = .ref a ∧ y = .ref b ∧ SqT K H a xs ∧ SqT K H b ys ∧ xs ≠ [] ∧ xs.length + ys.length ≤ sizeLine ∧
  (ys = [] → Q (.ref a) H) ∧ (ys ≠ [] → ∀ p, H p = none → Q (.ref p) (upd H p (.tup (xs ++ ys))))
end
end L2

namespace L2
open PySem PySem.Spec PyProof.Rows

/-! ### places -/
/-- the place that an index of any sign means -/
def ixN (n : Nat) (i : Int) : Option Nat := if 0 ≤ i then (if i < n then some i.toNat else none) else if -(n : Int) ≤ i then some (i + n).toNat else none
def atI {α : Type} (xs : List α) (i : Int) : Option α := (ixN xs.length i).bind fun j => xs[j]?
theorem ixN_seq {n : Nat} {i : Int} {j : Nat} (h : ixN n i = some j) : seqIndex? i n = some j ∧ j < n ∧ -(n : Int) ≤ i ∧ i < n := by
  unfold ixN at h
  by_cases h0 : 0 ≤ i
  · rw [if_pos h0] at h
    by_cases h1 : i < n
    · rw [if_pos h1] at h
      have e : i.toNat = j := Option.some.inj h
      exact ⟨by rw [seqIndex_of h0 h1, e], by omega, by omega, h1⟩
    · rw [if_neg h1] at h; cases h
  · rw [if_neg h0] at h
    by_cases h1 : -(n : Int) ≤ i
    · rw [if_pos h1] at h
      have e : (i + n).toNat = j := Option.some.inj h
      exact ⟨by rw [seqIndex_neg (by omega) h1, e], by omega, h1, by omega⟩
    · rw [if_neg h1] at h; cases h
theorem atI_get {α : Type} {xs : List α} {i : Int} {v : α} (h : atI xs i = some v) : ∃ j, seqIndex? i xs.length = some j ∧ xs[j]? = some v ∧ j < xs.length ∧ -(xs.length : Int) ≤ i ∧ i < xs.length := by
  unfold atI at h
  cases e : ixN xs.length i with
  | none => rw [e] at h; cases h
  | some j =>
    rw [e] at h
    obtain ⟨h1, h2, h3, h4⟩ := ixN_seq e
    exact ⟨j, h1, h, h2, h3, h4⟩
theorem atI_nat {α : Type} {xs : List α} {j : Nat} {v : α} (h : xs[j]? = some v) : atI xs (j : Int) = some v := by
  have hj : j < xs.length := (List.getElem?_eq_some_iff.mp h).1
  have e : ixN xs.length (j : Int) = some j := by
    unfold ixN
    rw [if_pos (by omega), if_pos (by omega)]; simp
  unfold atI; rw [e]; exact h
/-! ### what may be subscripted -/
/-- what stands as an index of a plain subscript -/
def PlainIx (b : Expr) : Prop := ∀ o i, subscripted b false o i = operate [o, i] (getItem o i)
/-- a subscript by values -/
def IxR (X : Cx) (r : R2) : Prop :=
  ∀ (value slice : Expr) (pins : List (Addr × Obj)) (s : Shared) (σ : St) (H : Hp) (x y : V) (v u : Value) (Q : VK), Inv X pins σ H s → RelV x v → RelV y u → r x y H Q →
    subscripted slice false v u = operate [v, u] (getItem v u) → wpAny (model X.prog X.w) X.A (subscriptTail value slice v u) (EP X pins σ Q) X.xe s
/-- a call of a builtin's method by values: the receiver, the arguments -/
def MtR (X : Cx) (id : String) (r : V → List V → Hp → VK → Prop) : Prop :=
  ∀ (pins : List (Addr × Obj)) (s : Shared) (σ : St) (H : Hp) (x : V) (xs : List V) (v : Value) (us : List Value) (Q : VK), Inv X pins σ H s → RelV x v → Vals xs us → r x xs H Q →
    wpAny (model X.prog X.w) X.A (call (.builtin id) (v :: us)) (EP X pins σ Q) X.xe s
section
variable {X : Cx} {a b : Expr} {ta tb : TE} {pos : Pos}
/-- a[b] -/
theorem pe_ix {r : R2} (hr : IxR X r) (ha : PE X a ta) (hb : PE X b tb) (hs : PlainIx b) : PE X (.Subscript a b pos) (tOp r ta tb) := by
  intro pins s σ H Q I h
  exact Subscript_ (binT ha hb I h fun v u s2 x y H2 I2 rx ry q => hr a b pins s2 σ H2 x y v u Q I2 rx ry q (hs _ _))

def rIxL (K : PySem.W.Frag) : R2 := fun x y H Q => ∃ p xs i v, x = .ref p ∧ y = .int i ∧ SqL K H p xs ∧ atI xs i = some v ∧ Q v H
def rIxT (K : PySem.W.Frag) : R2 := fun x y H Q => ∃ p xs i v, x = .ref p ∧ y = .int i ∧ SqT K H p xs ∧ atI xs i = some v ∧ Q v H
def rIxS : R2 := fun x y H Q => ∃ z i c, x = .str z ∧ y = .int i ∧ z.length ≤ sizeLine ∧ atI z.cps.toList i = some c ∧ Q (.str ⟨#[c]⟩) H
theorem ix_list : IxR X (rIxL X.K) := by
  intro value slice pins s σ H x y v u Q I rx ry h hs
  obtain ⟨p, xs, i, z, rfl, rfl, hq, he, q⟩ := h
  cases rx
  obtain ⟨t, rfl⟩ := ry
  obtain ⟨its, r, pl, hz⟩ := I.list hq
  obtain ⟨j, h1, h2, h3, h4, h5⟩ := atI_get he
  obtain ⟨w, ew, rw'⟩ := r.get h2
  have hl := r.length
  have hn := line63
  have fin : EP X pins σ Q w s := ⟨z, H, I, rw', q⟩
  by_cases h0 : 0 ≤ i
  · have hj : i.toNat = j := by
      rw [seqIndex_of h0 h5] at h1
      exact Option.some.inj h1
    exact item_listR pl.isList h0 (by omega) (by rw [hj]; simpa using ew) fin hs
  · have hj : (i + (its.toArray.size : Int)).toNat = j := by
      rw [seqIndex_neg (by omega) h4] at h1
      rw [List.size_toArray, ← hl]
      exact Option.some.inj h1
    exact subscriptTail_builtinR (x := w) pl.isList.typeIs slot_list_getitem.lookup
      (wpAny_getItem_list_neg (Q := fun r s' => r = w ∧ EP X pins σ Q r s') pl.isList (by omega) (by rw [List.size_toArray] <;> omega) (by omega) (by rw [hj]; simpa using ew) ⟨rfl, fin⟩) hs
theorem ix_str : IxR X rIxS := by
  intro value slice pins s σ H x y v u Q I rx ry h hs
  obtain ⟨z, i, c, rfl, rfl, hz, he, q⟩ := h
  obtain ⟨t, rfl⟩ := rx
  obtain ⟨t', rfl⟩ := ry
  obtain ⟨j, h1, h2, h3, h4, h5⟩ := atI_get he
  have hl : z.cps.toList.length = z.length := by simp [Str.length]
  rw [hl] at h1 h4 h5
  have hn := line63
  exact tail_any (typeIs_str s z t) slot_str_getitem.lookup (getItem_str (c := c) (by
    have e1 : decide (i < -(2 ^ 63 : Int)) = false := decide_eq_false (by omega)
    have e2 : decide (i ≥ 2 ^ 63) = false := decide_eq_false (by omega)
    rw [e1, e2, Bool.or_false]) (by rw [h1]; simpa using h2) ⟨.str ⟨#[c]⟩, H, I.tok _, ⟨_, rfl⟩, q⟩) hs
/-- list, tuple or str -/
def rIx (K : PySem.W.Frag) : R2 := fun x y H Q => rIxL K x y H Q ∨ rIxT K x y H Q ∨ rIxS x y H Q
/-! ### xs[i] = v, any sign -/
/-- the list's object behind a store -/
theorem mapSeq_set (its : List Value) (n j : Nat) (u : Value) : Obj.mapSeq (·.setIfInBounds j u) { cls := .type "list", data := .seq its.toArray n } = { cls := .type "list", data := .seq (its.set j u).toArray n } := by
  simp [Obj.mapSeq]
theorem Inv.lst {pins : List (Addr × Obj)} {σ : St} {H : Hp} {s : Shared} {p : Addr} {xs : List V} (I : Inv X pins σ H s) (h : H p = some (.lst xs)) :
    ∃ (its : List Value) (n : Nat), Vals xs its ∧ s.heap.get? p = some { cls := .type "list", data := .seq its.toArray n } ∧ xs.length ≤ sizeLine := by
  obtain ⟨z, its, n, r, e⟩ := I.hok p _ h
  exact ⟨its, n, r, e, z⟩
/-- the list at p is written by an update of its object -/
theorem Inv.lstUpd {pins : List (Addr × Obj)} {σ : St} {H : Hp} {s : Shared} {p : Addr} {xs ys : List V} {its its' : List Value} {n n' : Nat} {f : Obj → Obj} (I : Inv X pins σ H s) (h : H p = some (.lst xs))
    (ho : s.heap.get? p = some { cls := .type "list", data := .seq its.toArray n }) (hf : f { cls := .type "list", data := .seq its.toArray n } = { cls := .type "list", data := .seq its'.toArray n' }) (r : Vals ys its') (hz : ys.length ≤ sizeLine) (t : Nat) :
    Inv X pins σ (upd H p (.lst ys)) { s with heap := s.heap.update p f, toks := t } := by
  have e : (s.heap.update p f).get? p = some { cls := .type "list", data := .seq its'.toArray n' } := by
    rw [Heap.get?_update_self f ho (by rw [hf] <;> rfl), hf]
  refine I.write (x := p) (e := p) (by rw [h]; trivial) (.inl rfl) (fun b u hb q => (Heap.get?_update_other _ _ (Ne.symm hb)).trans q) ⟨_, e⟩ ?_
  exact ⟨hz, its', n', r, e⟩
def rSetL : V → V → V → Hp → (Hp → Prop) → Prop := fun o i v H Q => ∃ p xs k j, o = .ref p ∧ i = .int k ∧ H p = some (.lst xs) ∧ ixN xs.length k = some j ∧ Q (upd H p (.lst (xs.set j v)))
theorem set_list : PSet X rSetL := by
  intro pins s σ H o i v ov iv u Q I ro ri rv h
  obtain ⟨p, xs, k, j, rfl, rfl, hp, hj, q⟩ := h
  cases ro
  obtain ⟨t, rfl⟩ := ri
  obtain ⟨its, n, r, ho, hz⟩ := I.lst hp
  obtain ⟨h1, h2, h3, h4⟩ := ixN_seq hj
  have hl := r.length
  have hn := line63
  have I' : Inv X pins σ (upd H p (.lst (xs.set j v))) { s with heap := s.heap.update p (Obj.mapSeq (·.setIfInBounds j u)) } :=
    I.lstUpd hp ho (mapSeq_set its n j u) (r.set rv j) (by rw [List.length_set]; exact hz) s.toks
  by_cases h0 : 0 ≤ k
  · have hk : k.toNat = j := by
      rw [seqIndex_of h0 h4] at h1
      exact Option.some.inj h1
    exact PySem.W.ki_setAt ho h0 (by omega) (by rw [List.size_toArray, ← hl]; exact h4) (by rw [hk]; exact ⟨_, I', q⟩)
  · have hk : (k + (its.toArray.size : Int)).toNat = j := by
      rw [seqIndex_neg (by omega) h3] at h1
      rw [List.size_toArray, ← hl]
      exact Option.some.inj h1
    exact PySem.W.ki_setBack ho (by omega) (by rw [List.size_toArray, ← hl]; exact h3) (by omega) (by rw [hk]; exact ⟨_, I', q⟩)

/-! ### slices -/
theorem slice_bounds (lo hi : Option Int) (n : Nat) : (sliceBounds lo hi none n).1 = ((HT.sIx n 0 lo : Nat) : Int) ∧ (sliceBounds lo hi none n).2.1 = ((HT.sIx n n hi : Nat) : Int) ∧ (sliceBounds lo hi none n).2.2 = 1 := by
  refine ⟨?_, ?_, rfl⟩
  · cases lo with
    | none => simp [sliceBounds, HT.sIx]
    | some i =>
      simp only [sliceBounds, HT.sIx, Option.getD_none, show (1 : Int) > 0 by decide, if_true]
      by_cases h : i < 0
      · simp only [h, if_true] <;> omega
      · simp only [h, if_false] <;> omega
  · cases hi with
    | none => simp [sliceBounds, HT.sIx]
    | some i =>
      simp only [sliceBounds, HT.sIx, Option.getD_none, show (1 : Int) > 0 by decide, if_true]
      by_cases h : i < 0
      · simp only [h, if_true] <;> omega
      · simp only [h, if_false] <;> omega
theorem slicePick_cut (its : List Value) (lo hi : Option Int) : slicePick its.toArray lo hi none = ((its.drop (HT.sIx its.length 0 lo)).take (HT.sIx its.length its.length hi - HT.sIx its.length 0 lo)).toArray := by
  obtain ⟨h1, h2, h3⟩ := slice_bounds lo hi its.toArray.size
  unfold slicePick
  rw [h1, h2, h3]
  simp only [sliceRange_one, pick_run, List.size_toArray] <;> rfl
/-- xs[lo:hi] of a list: a new list -/
def rSlL (K : PySem.W.Frag) : V → Option Int → Option Int → Hp → VK → Prop := fun x lo hi H Q => ∃ a xs, x = .ref a ∧ SqL K H a xs ∧ ∀ p, H p = none → Q (.ref p) (upd H p (.lst (cutV xs lo hi)))
theorem sl_list : SlR X (rSlL X.K) := by
  intro pins s σ H x v vl vu lo hi sl Q I rx hs pl pu h
  obtain ⟨a, xs, rfl, hx, q⟩ := h
  cases rx
  obtain ⟨its, r, ht, hz⟩ := I.list hx
  have hlen := r.length
  refine ⟨"list", _, slot_list_getitem.lookup, ht.isList.typeIs, ?_⟩
  refine wpAny_getItem_list_slice ht.isList hs pl pu .none (by simp) ?_ (by rw [List.size_toArray] <;> omega)
  rw [slicePick_cut, ← hlen]
  refine ⟨.ref s.heap.objs.size, _, I.laid (t' := s.toks) (o := .lst (cutV xs lo hi)) (fun b ob q => Heap.get?_push_of_some _ q) (Nat.le_refl _) ?_, rfl, q _ (I.hok.fresh (Nat.le_refl _))⟩
  exact ⟨Nat.le_trans (cutV_length xs lo hi) hz, _, 0, (r.drop (HT.sIx xs.length 0 lo)).take (HT.sIx xs.length xs.length hi - HT.sIx xs.length 0 lo), Heap.get?_push_size _ rfl⟩

/-! ### in, not in: flat items -/
def flatV : V → Bool
  | .non => true
  | .bl _ => true
  | .int _ => true
  | .str _ => true
  | _ => false
/-- == of flat values -/
def eqV : V → V → Bool
  | .non, .non => true
  | .bl a, .bl b => a == b
  | .bl a, .int b => (if a then 1 else 0) == b
  | .int a, .bl b => a == (if b then 1 else 0)
  | .int a, .int b => a == b
  | .str a, .str b => a == b
  | _, _ => false
/-- the items' answers, read off the values (a value's own answer does not lean on its token) -/
def eqU (x : V) (u : Value) : Bool := match u with
  | .none => eqV .non x
  | .bool b => eqV (.bl b) x
  | .int i _ => eqV (.int i) x
  | .str z _ => eqV (.str z) x
  | _ => false
def inV (x : V) (xs : List V) : Bool := xs.any fun y => eqV y x
/-- x in a list or tuple of flat items -/
def rIn (K : PySem.W.Frag) (neg : Bool) : R2 := fun x y H Q => ∃ p xs, y = .ref p ∧ (SqL K H p xs ∨ SqT K H p xs) ∧ flatV x = true ∧ xs.all flatV = true ∧ Q (.bl (if neg then !inV x xs else inV x xs)) H
/-! ### len, list(x), tuple(x) of any list or tuple that is read -/
theorem call_len_seq : CallR X (.builtin "len") (fun xs H Q => ∃ p ys, xs = [.ref p] ∧ (SqL X.K H p ys ∨ SqT X.K H p ys) ∧ Q (.int ys.length) H) := by
  intro pins s σ H xs us Q I r h
  obtain ⟨p, ys, rfl, hq, q⟩ := h
  obtain ⟨u, rfl, rx⟩ := vals1 r
  cases rx
  have hn := line63
  rcases hq with hq | hq
  · obtain ⟨its, r', pl, hz⟩ := I.list hq
    have hlen := r'.length
    exact Calls.call_len_list pl.isList (by simp only [List.size_toArray] <;> omega) ⟨.int ys.length, H, I.tok _, ⟨s.toks + 1, by rw [List.size_toArray, hlen]⟩, q⟩
  · obtain ⟨its, r', pl, hz⟩ := I.tuple hq
    have hlen := r'.length
    exact len_tuple pl (by simp only [List.size_toArray] <;> omega) ⟨.int ys.length, H, I.tok _, ⟨s.toks + 1, by rw [List.size_toArray, hlen]⟩, q⟩
theorem call_len_str : CallR X (.builtin "len") (fun xs H Q => ∃ z, xs = [.str z] ∧ z.length ≤ sizeLine ∧ Q (.int z.length) H) := by
  intro pins s σ H xs us Q I r h
  obtain ⟨z, rfl, hz, q⟩ := h
  obtain ⟨u, rfl, t, rfl⟩ := vals1 r
  have hn := line63
  exact len_str (by omega) ⟨.int z.length, H, I.tok _, ⟨_, rfl⟩, q⟩
/-! ### the call of a builtin's method: o.m(..) -/
/-- the value is of that builtin type -/
def tyV (K : PySem.W.Frag) (T : String) (x : V) (H : Hp) : Prop := match x with
  | .str _ => T = "str"
  | .int _ => T = "int"
  | .ref p => (T = "list" ∧ ∃ xs, SqL K H p xs) ∨ (T = "tuple" ∧ ∃ o, K.lookup p = some o ∧ o.cls = .type "tuple" ∧ o.dict = none) ∨
      (T = "dict" ∧ ((∃ kvs, H p = some (.dK kvs)) ∨ ∃ kvs, H p = some (.dT kvs))) ∨ (T = "set" ∧ ∃ S n, H p = some (.set S n))
  | _ => False
theorem tyV_is {pins : List (Addr × Obj)} {σ : St} {H : Hp} {s : Shared} {T : String} {x : V} {v : Value} (I : Inv X pins σ H s) (r : RelV x v) (ty : tyV X.K T x H) :
    s.TypeIs v T ∧ ∀ a, v = .ref a → ∃ ob, s.heap.get? a = some ob ∧ ob.dict = none := by
  cases x with
  | str z =>
    obtain ⟨t, rfl⟩ := r
    cases (show T = "str" from ty)
    exact ⟨typeIs_str s z t, fun _ e => nomatch e⟩
  | int i =>
    obtain ⟨t, rfl⟩ := r
    cases (show T = "int" from ty)
    exact ⟨typeIs_int s i t, fun _ e => nomatch e⟩
  | ref p =>
    cases r
    rcases ty with ⟨rfl, xs, hq⟩ | ⟨rfl, o, hk, hc, hd⟩ | ⟨rfl, hk⟩ | ⟨rfl, S, n, hk⟩
    · obtain ⟨its, _, pl, _⟩ := I.list hq
      refine ⟨pl.isList.typeIs, fun a e => ?_⟩
      cases e
      obtain ⟨o, n, e, c, hd, _⟩ := pl
      exact ⟨o, e, hd⟩
    · refine ⟨⟨o, I.kIn p o hk, hc⟩, fun a e => ?_⟩
      cases e
      exact ⟨o, I.kIn _ o hk, hd⟩
    · have z : ∃ o, s.heap.get? p = some o ∧ o.ExactDict := by
        rcases hk with ⟨kvs, hk⟩ | ⟨kvs, hk⟩
        · obtain ⟨_, _, _, _, o, _, _, e, ex, _⟩ := I.hok p _ hk
          exact ⟨o, e, ex⟩
        · obtain ⟨_, _, _, _, o, _, _, e, ex, _⟩ := I.hok p _ hk
          exact ⟨o, e, ex⟩
      obtain ⟨o, e, ex⟩ := z
      refine ⟨⟨o, e, ex.1⟩, fun a e2 => ?_⟩
      cases e2
      exact ⟨o, e, ex.2.1⟩
    · obtain ⟨o, _, _, _, e, ex, _⟩ := I.hok p _ hk
      refine ⟨⟨o, e, ex.1⟩, fun a e2 => ?_⟩
      cases e2
      exact ⟨o, e, ex.2.1⟩
  | _ => exact False.elim ty
def tBM0 (K : PySem.W.Frag) (T : String) (r : V → List V → Hp → VK → Prop) (to : TE) : TE := fun σ H Q => to σ H fun x H1 => tyV K T x H1 ∧ r x [] H1 Q
def tBM (K : PySem.W.Frag) (T : String) (r : V → List V → Hp → VK → Prop) (to : TE) (t : TA) : TE := fun σ H Q => to σ H fun x H1 => tyV K T x H1 ∧ t σ H1 fun xs H2 => r x xs H2 Q
variable {o e : Expr} {es : List Expr} {to : TE} {t : TA} {name : Str} {apos cpos : Pos} {T id : String} {r : V → List V → Hp → VK → Prop}
theorem pe_bm (pa : PlainAttrs T) (slot : Slot T name id) (hty : typeOf (.builtin id) = pure (.type "method_descriptor")) (hm : MtR X id r) (ho : PE X o to) (ha : PA X (e :: es) t)
    (hbase : attributeBase o name X.env (eval o X.env) = eval o X.env := by rfl)
    (hfew : ((backTo cpos (starEach (e :: es) X.env)).all (fun x => !x.1) && (backToKw cpos (keywordEach [] X.env)).all (fun x => x.1.isSome)
      && decide ((e :: es).length + ([] : List Keyword).length + (if ([] : List Keyword).isEmpty then 0 else 1) < 30)) = true := by rfl)
    (hline : (apos.endLine == cpos.line) = true := by rfl) (hs : starEach (e :: es) X.env = (false, eval e X.env) :: starEach es X.env := by rfl) (hplain : (backTo cpos (starEach es X.env)).any (·.1) = false := by rfl) :
    PE X (.Call (.Attribute o name apos) (e :: es) [] cpos) (tBM X.K T r to t) := by
  intro pins s σ H Q I h
  refine wpAny_Call_method_late hbase hfew hline rfl (thn (ho pins s σ H _ I h) fun v s1 ⟨x, H1, I1, r1, ty, q1⟩ => ?_)
  obtain ⟨h1, h2⟩ := tyV_is I1 r1 ty
  refine ⟨T, id, pa, slot, hty, h1, h2, ?_⟩
  have hA := ha cpos pins s1 σ H1 _ I1 q1
  rw [hs] at hA ⊢
  refine Calls.callWith_builtin (by show (false || (backTo cpos (starEach es X.env)).any (·.1)) = false; rw [hplain] <;> rfl) (Calls.evalArgs_plain ?_)
  exact thn hA fun us s2 ⟨vs, H2, I2, r2, q2⟩ => hm pins s2 σ H2 x vs v us Q I2 r1 r2 q2
/- xs.append(e), list.index on a module's tuple .. are MtR facts of 06m -/
end
end L2

namespace L2
open PySem PySem.Spec PyProof.Rows

def MtM (X : Cx) (id : String) (r : V → List V → Hp → VK → Prop) : Prop :=
  ∀ (pins : List (Addr × Obj)) (s : Shared) (σ : St) (H : Hp) (x : V) (xs : List V) (v : Value) (us : List Value) (Q : VK), Inv X pins σ H s → RelV x v → Vals xs us → r x xs H Q →
    wpAny (model X.prog X.w) X.A (call (.builtin id) (v :: us)) (EP X pins σ Q) X.xe s

/-! ### lists of values -/
theorem Vals.one : ∀ {x : V} {us : List Value}, Vals [x] us → ∃ u, us = [u] ∧ RelV x u
  | _, _, .cons r .nil => ⟨_, rfl, r⟩
theorem Vals.eraseIdx : ∀ {xs : List V} {us : List Value} (i : Nat), Vals xs us → Vals (xs.eraseIdx i) (us.eraseIdx i)
  | _, _, _, .nil => .nil
  | _, _, 0, .cons _ t => t
  | _, _, i + 1, .cons r t => .cons r (Vals.eraseIdx i t)
section
variable {X : Cx} {pins : List (Addr × Obj)} {σ : St} {H : Hp} {s : Shared} {l b : Addr} {xs ys zs : List V}

/-! ### the two steps: a tracked list is rewritten, a new list is laid -/
theorem Inv.lset {its its' : List Value} {n : Nat} {f : Array Value → Array Value} {t' : Nat} (I : Inv X pins σ H s) (hH : H l = some (.lst xs))
    (e : s.heap.get? l = some { cls := .type "list", data := .seq its.toArray n }) (hf : f its.toArray = its'.toArray) (hv : Vals ys its') (hz : ys.length ≤ sizeLine) :
    Inv X pins σ (upd H l (.lst ys)) { s with heap := s.heap.update l (Obj.mapSeq f), toks := t' } := by
  have q := PySem.IsL.update e f
  rw [hf] at q
  refine I.write (x := l) (e := l) (by rw [hH]; exact trivial) (.inl rfl) (fun b' u hb hu => (Heap.get?_update_other s.heap (Obj.mapSeq f) (Ne.symm hb)).trans hu) ⟨_, q⟩ ?_
  exact ⟨hz, its', _, hv, q⟩
theorem Inv.lnew {its : List Value} {t' : Nat} (I : Inv X pins σ H s) (hv : Vals ys its) (hz : ys.length ≤ sizeLine) :
    Inv X pins σ (upd H s.heap.objs.size (.lst ys)) { s with heap := s.heap.push { cls := .type "list", data := .seq its.toArray }, toks := t' } :=
  I.laid (fun _ _ q => Heap.get?_push_of_some _ q) (Nat.le_refl _) ⟨hz, its, 0, hv, Heap.get?_push_size _ rfl⟩
theorem Inv.fresh (I : Inv X pins σ H s) : H s.heap.objs.size = none := I.hok.fresh (Nat.le_refl _)
theorem Inv.lstM (I : Inv X pins σ H s) (hH : H l = some (.lst xs)) : xs.length ≤ sizeLine ∧ ∃ (its : List Value) (n : Nat), Vals xs its ∧ xs.length = its.length ∧ s.heap.get? l = some { cls := .type "list", data := .seq its.toArray n } := by
  obtain ⟨z, its, n, r, e⟩ := I.hok l _ hH
  exact ⟨z, its, n, r, r.length, e⟩

end

section
variable {X : Cx}

/-! ### methods -/
def rAppend : V → List V → Hp → VK → Prop := fun x vs H Q => ∃ l xs y, x = .ref l ∧ vs = [y] ∧ H l = some (.lst xs) ∧ xs.length < sizeLine ∧ Q .non (upd H l (.lst (xs ++ [y])))
theorem mt_append : MtM X "list.append" rAppend := by
  intro pins s σ H x vs v us Q I rx rv h
  obtain ⟨l, xs, y, rfl, rfl, hH, hz, q⟩ := h
  cases rx
  obtain ⟨u, rfl, ru⟩ := rv.one
  obtain ⟨z, its, n, r, hl, e⟩ := I.lstM hH
  refine call_meets F.slot_list_append ⟨_, e, rfl⟩ F.entry_list_append (F.args_list_append_2 _ _) (PySem.list_append l its.toArray n u (by rw [List.size_toArray]; omega)) ⟨e, ?_⟩
  refine ⟨.non, _, I.lset (its' := its ++ [u]) hH e (by simp) (r.append (.cons ru .nil)) ?_, rfl, q⟩
  rw [List.length_append, List.length_singleton]
  omega

def rExtend : V → List V → Hp → VK → Prop := fun x vs H Q => ∃ l b xs zs, x = .ref l ∧ vs = [.ref b] ∧ H l = some (.lst xs) ∧ H b = some (.lst zs) ∧ xs.length + zs.length ≤ sizeLine ∧ Q .non (upd H l (.lst (xs ++ zs)))
def rPop : V → List V → Hp → VK → Prop := fun x vs H Q => ∃ l xs y, x = .ref l ∧ vs = [] ∧ H l = some (.lst xs) ∧ xs[xs.length - 1]? = some y ∧ Q y (upd H l (.lst xs.dropLast))
def rPopAt : V → List V → Hp → VK → Prop := fun x vs H Q => ∃ l xs i k y, x = .ref l ∧ vs = [.int i] ∧ H l = some (.lst xs) ∧ -(2 ^ 63) ≤ i ∧ i < 2 ^ 63 ∧ seqIndex? i xs.length = some k ∧ xs[k]? = some y ∧ Q y (upd H l (.lst (xs.eraseIdx k)))
def rReverse : V → List V → Hp → VK → Prop := fun x vs H Q => ∃ l xs, x = .ref l ∧ vs = [] ∧ H l = some (.lst xs) ∧ Q .non (upd H l (.lst xs.reverse))
def rClear : V → List V → Hp → VK → Prop := fun x vs H Q => ∃ l xs, x = .ref l ∧ vs = [] ∧ H l = some (.lst xs) ∧ Q .non (upd H l (.lst []))
/-! ### list + list, list += list, list * int -/
def rCat : R2 := fun x y H Q => ∃ l b xs zs, x = .ref l ∧ y = .ref b ∧ H l = some (.lst xs) ∧ H b = some (.lst zs) ∧ xs.length + zs.length ≤ sizeLine ∧ ∀ p, H p = none → Q (.ref p) (upd H p (.lst (xs ++ zs)))
theorem op_cat : OpR X (binaryOp .Add) rCat := by
  intro pins s σ H x y v u Q I rx ry h
  obtain ⟨l, b, xs, zs, rfl, rfl, hH, hB, hz, q⟩ := h
  cases rx
  cases ry
  obtain ⟨z, its, n, r, hl, e⟩ := I.lstM hH
  obtain ⟨z2, its2, n2, r2, hl2, e2⟩ := I.lstM hB
  refine PySem.P.add_list e e2 ?_ (by rw [List.size_toArray, List.size_toArray]; omega)
  have ea : its.toArray ++ its2.toArray = (its ++ its2).toArray := by simp
  rw [ea]
  exact ⟨.ref _, _, I.lnew (t' := s.toks) (r.append r2) (by rw [List.length_append]; omega), rfl, q _ I.fresh⟩
/-- a list times an int (a negative one is nothing) -/
def rRep : R2 := fun x y H Q => ∃ l k xs, x = .ref l ∧ y = .int k ∧ H l = some (.lst xs) ∧ -(2 ^ 63) ≤ k ∧ k < 2 ^ 63 ∧ xs.length * k.toNat ≤ sizeLine ∧
  ∀ p, H p = none → Q (.ref p) (upd H p (.lst (List.replicate k.toNat xs).flatten))
/-! ### del xs[i] -/
end

/-! ### xs[a:b] = ys -/
section
variable {prog : Program} {w : World} {A : Around} {E : Value → Shared → Prop} {s : Shared}
set_option maxRecDepth 100000 in
end

section
variable {X : Cx}
end
end L2

namespace Att
open PySem PySem.W PySem.Calls PyProof.Rows

/-! ### the script -/
theorem ints_of_wellAll {P : Params} {h : Heap} : ∀ (ns : List Int) (vs : List Value), WellAll P h vs (ns.map WData.int) → IntsAre vs ns := by
  intro ns
  induction ns with
  | nil =>
    intro vs w
    rw [List.map_nil] at w
    cases w
    exact .nil
  | cons n ns ih =>
    intro vs w
    rw [List.map_cons] at w
    cases w with
    | cons a b =>
      cases a
      exact .cons _ _ (ih _ b)

theorem script_of {l : OpenLaw} {n : Nat} (hn : l.most = some n) {P : Params} {h : Heap} {args : List WData} {vals : List Value}
    (hpre : l.row.toRowW.claim.pre args = true) (hwl : WellAll P h vals args) :
    ∃ a vs ns, vals = [Value.ref a] ∧ args = [WData.list (ns.map WData.int)] ∧ h.get? a = some { cls := .type "list", data := .seq vs.toArray } ∧ IntsAre vs ns ∧ ns.length ≤ n := by
  have hsh : WShape.hasAll [] args [.list .int] = true := (pre_splitW hpre).1
  have hc : l.pre.holds [] { args := args } = true := (pre_splitW hpre).2
  obtain ⟨d, r, rfl, h1, h2⟩ := hasAllW_cons hsh
  obtain rfl := hasAllW_nil h2
  obtain ⟨xs, rfl, h3⟩ := hasW_list h1
  obtain ⟨ns, rfl⟩ := items_int h3
  have hlen : ns.length ≤ n := by
    unfold OpenLaw.pre at hc
    have h4 : (WTm.not (.lt (.lit (.int (n : Int))) (.len (.arg 0)))).holds [] { args := [.list (ns.map .int)] } = true := by
      have h4 := (holds_andW hc).1
      rw [hn] at h4
      exact h4
    have h5 := condW_of h4 (w_not (w_lt w_lit (w_len_list (w_arg rfl))))
    rw [List.length_map] at h5
    refine Nat.le_of_not_lt fun q => ?_
    have q' : (n : Int) < ((ns.length : Nat) : Int) := by omega
    first
      | (rw [decide_eq_true q'] at h5; exact absurd h5 (by decide))
      | (simp at h5; omega)
  cases hwl with
  | cons w1 w2 =>
    cases w2
    cases w1 with
    | list ho hall => exact ⟨_, _, ns, rfl, rfl, ho, ints_of_wellAll ns _ hall, hlen⟩

theorem post_true (l : OpenLaw) (args : List WData) : l.row.toRowW.claim.post args (.bool true) args = true :=
  postW_of (r := l.row.toRowW) (X := (true == true))
    (show WShape.has [] (.bool true) .bool = true by first | rfl | decide | simp [WShape.has, WShape.arms, WShape.armsAll])
    (show (WTm.eq .res (.lit (.bool true))).value [] { args := args, res := some (.bool true), after := args } = some (.bool (true == true)) from w_eq_bool (w_res rfl) w_lit) rfl

/-! ### the attachment: holds_open's last premise (the goal 'hc' behind k_head) from a wpAny of the law's body -/
/-- the same from a codeAny of the CALL (for a layer whose function contracts speak of calls) -/
theorem attach_call {l : OpenLaw} {n : Nat} {q : Program} {loose : List Str} {XP : (Str → Option Value) → Heap → Prop} {YP : World → Heap → Prop} {d : DefRec}
    (hn : l.most = some n) (hdf : d.params.defaults = [])
    (call : ∀ (w : World) (s₀ s₁ : Shared) (mg mb : Str → Option Value) (fa : Addr) (o : Obj) (pm cd doc : Value) (a : Addr) (vs : List Value) (ns : List Int),
      Ground q loose [] XP w s₀ mg mb s₁.heap → YP w s₁.heap →
      s₁.heap.get? fa = some o → o.data = .func (docDef d.name d.params d.body d.scope pm cd doc) → s₁.heap.CodeRec cd d.name → mg d.name = some (.ref fa) →
      s₁.heap.get? a = some { cls := .type "list", data := .seq vs.toArray } → IntsAre vs ns → ns.length ≤ n → s₁.gens = #[] →
      codeAny (model l.prog w) callerA (.call (.ref fa) ⟨[.ref a], []⟩) (fun r s' => r = .ok (.ret (.bool true)) ∧ OldK s₁.heap s'.heap ∧ s'.os = s₁.os ∧ AllBare s'.gens) s₁) :
    WalkO q loose XP YP l.row.toRowW d [] (fun f vs => PySem.call f vs) := by
  intro w s₀ s₁ mg mb G Y fa o pm cd doc dV kV ho hd hcd hD hmg hg args vals as hpre hlay hrd hwl hlo
  obtain rfl : dV = .none := Dflts.none hD hdf
  obtain rfl : kV = .none := Dflts.noKw hD
  obtain ⟨a, vs, ns, rfl, rfl, hobj, hints, hlen⟩ := script_of hn hpre hwl
  refine enter_call (codeAny_mono (call w s₀ s₁ mg mb fa o pm cd doc a vs ns G Y ho (fd_plain hd) hcd hmg hobj hints hlen hg) fun r s' hq => ?_)
  obtain ⟨rfl, h2, h3, h4⟩ := hq
  exact ⟨.inl ⟨.bool true, .bool true, [], rfl, fun _ => rfl, .bool true, post_true l _, fun _ => ⟨List.Pairwise.nil, fun _ hm => (nomatch hm)⟩⟩, h2, h3, h4⟩

/-! ### rules over ANY heap (no ledger) from facts about the written part K: the library's own take a ledger (News) for what they write -/
section
variable {prog : Program} {w : World} {A : Around} {E : Value → Shared → Prop} {s : Shared} {K : Frag}

/-! the whole heap as the ledger: makes every rule that writes through a ledger a rule over any heap -/
def noObjs (h : Heap) : Heap := { h with objs := #[] }
def ledger (h : Heap) (L d : Addr) : List (Addr × Obj) := (List.range h.objs.size).filterMap fun a => if a = L ∨ a = d then none else (h.get? a).map fun o => (a, o)
end
end Att

namespace L2
open PySem PySem.Spec PyProof.Rows

theorem vals_ints : ∀ {vs : List Value} {ns : List Int}, IntsAre vs ns → Vals (ns.map V.int) vs
  | _, _, .nil => .nil
  | _, _, .cons n t h => .cons ⟨t, rfl⟩ (vals_ints h)

/-- nothing is tracked but the script, known to the object (or it is an object of the module) -/
def Only (H : Hp) : Prop := ∀ b, H b = none ∨ ∃ o xs, H b = some (.frz o (.lst xs))

/-- THE HEAD: the law's promise, at the heap behind the top. F, the promise of the law's def, may use that base is part of the heap (so K.In base, base.Ns mainGlobals mg stand in Mod) -/
theorem law_call {P : Program} {w : World} {K : PySem.W.Frag} {mg mb : Str → Option Value} {CX : CXT} {k : Nat} {fa a : Addr} {fd : FuncData} {x : Str} {sp : Sp} {s₁ : Shared} {vs : List Value} {ns : List Int}
    (KX : K.In s₁.heap) (hns : s₁.heap.Ns mainGlobals mg) (hb : s₁.heap.Ns builtinsNs mb) (hbb : ∀ x : Str, x ≠ "__name__" → mb x = bootBuiltins x) (hlim : s₁.heap.NoLimit) (hg : s₁.gens = #[])
    (ha : s₁.heap.get? a = some { cls := .type "list", data := .seq vs.toArray }) (hi : IntsAre vs ns) (hl : ns.length ≤ sizeLine) (hr : Room k callerA)
    (F : ∀ base : Heap, K.In base → base.Ns mainGlobals mg → FnOk P w K mg base CX k fa fd [x] sp) (hbind : ∀ (s : Shared) (u : Value), BindsTo s fd ⟨[u], []⟩ [(x, u)])
    (hsp : ∀ H : Hp, Only H → SqL K H a (ns.map V.int) → sp [.ref a] H (fun v _ => v = .bl true) fun _ _ _ => False)
    (hCX : ∀ H e s', CX [] H s₁ (fun _ _ _ => False) e s' → False) :
    codeAny (model P w) callerA (.call (.ref fa) ⟨[.ref a], []⟩) (fun r s' => r = .ok (.ret (.bool true)) ∧ OldK s₁.heap s'.heap ∧ s'.os = s₁.os ∧ AllBare s'.gens) s₁ := by
  have rv := vals_ints hi
  have lenV := hi.length
  -- from an abstract heap in which nothing but the script may be tracked
  have core : ∀ H : Hp, Only H → SqL K H a (ns.map V.int) → HOk P w H s₁.heap → (∀ b, H b ≠ none → b = a) → (H a ≠ none → K.lookup a = none) →
      codeAny (model P w) callerA (.call (.ref fa) ⟨[.ref a], []⟩) (fun r s' => r = .ok (.ret (.bool true)) ∧ OldK s₁.heap s'.heap ∧ s'.os = s₁.os ∧ AllBare s'.gens) s₁ := by
    intro H hO hS hok hA hK
    have base_of : ∀ {b : Addr} {o : Obj}, s₁.heap.get? b = some o → H b = none → (hidT s₁.heap H).get? b = some o := fun e n => hidT_get e n
    have noA : ∀ {b : Addr} {o : Obj} {es : Array DictEntry} {ep : Nat}, s₁.heap.get? b = some o → o.data = .dict es ep → H b = none := fun {b o es ep} e d => by
      cases q : H b with
      | none => rfl
      | some u =>
        have e' : b = a := hA b (by rw [q]; simp)
        subst e'
        rw [ha] at e; cases e
        have d' : Data.seq vs.toArray _ = Data.dict es ep := d
        cases d'
    have nsK : ∀ {b : Addr} {m : Str → Option Value}, s₁.heap.Ns b m → (hidT s₁.heap H).Ns b m := fun {b m} ⟨o, es, ep, e, d, r⟩ => ⟨o, es, ep, base_of e (noA e d), d, r⟩
    have hKb : K.In (hidT s₁.heap H) := fun b o e => base_of (KX b o e) (by
      cases q : H b with
      | none => rfl
      | some u =>
        have e' : b = a := hA b (by rw [q]; simp)
        subst e'
        rw [hK (by rw [q]; simp)] at e; cases e)
    have hM : Mod K mg (hidT s₁.heap H) := ⟨hKb, nsK hns, ⟨mb, nsK hb, hbb⟩, let ⟨mc, h1, h2⟩ := hlim; ⟨mc, nsK h1, h2⟩⟩
    have e0 : Env0 P w K mg (hidT s₁.heap H) callerA [] s₁ H := ⟨rfl, hM, fun b o e => of_hidT e, Nat.le_of_eq (hidT_size _ _), trivial, fun b hb => absurd (show b ∈ ([] : List Addr) from hb) (by simp), hok, .of_eq hg⟩
    refine codeAny_mono ((F _ hKb (nsK hns)).run callerA [] s₁ H ⟨[.ref a], []⟩ [.ref a] [.ref a] _ _ hr e0 (hbind s₁ (.ref a)) (.cons rfl .nil) (hsp H hO hS)) fun r s' h => ?_
    cases r with
    | error e => exact (hCX H e s' h).elim
    | ok fl =>
      cases fl with
      | next => exact False.elim h
      | brk => exact False.elim h
      | cont => exact False.elim h
      | ret u =>
        obtain ⟨v, H', os, bare, un, hok', r', q⟩ := h
        have q' : v = .bl true := q
        subst q'
        obtain rfl : u = Value.bool true := r'
        refine ⟨rfl, OldK.of_keep fun b o e => ?_, os, bare⟩
        cases q : H b with
        | none => exact un.keep b o e q (by intro z; exact absurd (show b ∈ ([] : List Addr) from z) (by simp)) (by simp)
        | some u =>
          rcases hO b with z | ⟨ob, xs, z⟩
          · rw [q] at z; cases z
          · have z2 := un.frzs b ob _ z
            obtain ⟨e1, _⟩ := hok b _ z
            obtain ⟨e2, _⟩ := hok' b _ z2
            rw [e] at e1; cases e1
            exact e2
  cases hk : K.lookup a with
  | some o =>
    -- the script is one of the module's own objects
    have e := KX a o hk
    rw [ha] at e
    cases e
    refine core (fun _ => none) (fun _ => .inl rfl) (.inr ⟨_, vs.toArray, _, hk, rfl, rfl, rfl, by rw [List.size_toArray, lenV]; exact hl, by simpa using rv⟩) (fun b u z => by have z' : (none : Option HO) = some u := z; cases z') (fun b z => absurd rfl z) fun z => absurd rfl z
  | none =>
    refine core (fun b => if b = a then some (.frz { cls := .type "list", data := .seq vs.toArray } (.lst (ns.map V.int))) else none) (fun b => ?_) (.inl (.inr ⟨{ cls := .type "list", data := .seq vs.toArray }, if_pos rfl⟩)) (fun b u z => ?_) (fun b z => ?_) fun _ => hk
    · by_cases hb : b = a
      · exact .inr ⟨_, _, if_pos hb⟩
      · exact .inl (if_neg hb)
    · by_cases hb : b = a
      · have z' := (if_pos hb).symm.trans z
        cases z'
        subst hb
        exact ⟨ha, by rw [List.length_map]; exact hl, vs, _, rv, ha⟩
      · have z' := (if_neg hb).symm.trans z
        cases z'
    · by_cases hb : b = a
      · exact hb
      · exact absurd (if_neg hb) z
end L2

namespace L2
open PySem PySem.Spec PyProof.Rows

abbrev KOf {K : PySem.W.Frag} {h : Heap} (_ : K.In h) : PySem.W.Frag := K

/-- the goal that k_head leaves (case hc), from the law's promise. F gives the function object fd (K's own) once, then the promise over every base -/
theorem walk_of {l : PySem.W.OpenLaw} {n k : Nat} {q : Program} {loose : List Str} {XP : (Str → Option Value) → Heap → Prop} {YP : World → Heap → Prop} {d : DefRec} {K : Params → PySem.W.Frag} {CX : World → CXT} {sp : World → Sp} {x : Str}
    (hn : l.most = some n) (hn2 : n ≤ sizeLine) (hdf : d.params.defaults = []) (hr : Room k callerA)
    (hY : ∀ (w : World) (h : Heap), YP w h → (K w.params).In h)
    (F : ∀ (w : World) (mg : Str → Option Value) (fa : Addr) (h : Heap), (K w.params).In h → h.Ns mainGlobals mg → mg d.name = some (.ref fa) →
      ∃ fd : FuncData, (∀ (s : Shared) (u : Value), BindsTo s fd ⟨[u], []⟩ [(x, u)]) ∧
        ∀ base : Heap, (K w.params).In base → base.Ns mainGlobals mg → FnOk l.prog w (K w.params) mg base (CX w) k fa fd [x] (sp w))
    (hsp : ∀ (w : World) (H : Hp) (a : Addr) (ns : List Int), ns.length ≤ n → Only H → SqL (K w.params) H a (ns.map V.int) → sp w [.ref a] H (fun v _ => v = .bl true) fun _ _ _ => False)
    (hCX : ∀ (w : World) (H : Hp) (s : Shared) (e : Value) (s' : Shared), CX w [] H s (fun _ _ _ => False) e s' → False) :
    PySem.W.WalkO q loose XP YP l.row.toRowW d [] (fun f vs => PySem.call f vs) := by
  refine Att.attach_call hn hdf fun w s₀ s₁ mg mb fa o pm cd doc a vs ns G Y ho hd hcd hmg hobj hints hlen hg => ?_
  have KX := hY w _ Y
  obtain ⟨fd, hb, hF⟩ := F w mg fa _ KX G.T.g hmg
  exact law_call KX G.T.g G.T.b G.T.builtins G.T.nolimit hg hobj hints (Nat.le_trans hlen hn2) hr hF hb (fun H hO hS => hsp w H a ns hlen hO hS) fun H e s' => hCX w H s₁ e s'
end L2

/- THE LAST THEOREM (shape; LID, My.* are yours):
   My.Adr: a structure of the addresses that your layer names (classes, functions); My.Txt K t: a structure (Prop) of the equations over K;
   My.txt_mk : {K} {implicit addresses ..} (e1 : nsIn K mainGlobals "law" = some (some (.ref f))) (e2 : K.lookup f = some ⟨oc, od, .func (fnOf "law" "law" params body scope dV kV doc pm an cdv ct), sl⟩) (e3 : codeIn K cdv "law" = true) .. : ∃ t, My.Txt K t

set_option maxRecDepth 100000 in
set_option maxHeartbeats 0 in
theorem PySem.Challenge.cw_LID_holds : PySem.Challenge.rw_LID.Holds := by
  w_on; o_law; k_head; (case hw => w_witness2)
  k_fill
  refine L2.walk_of (l := PySem.Challenge.rw_LID) (n := 63) (k := 40) (x := "script") (CX := fun w => ..) (sp := fun _ => My.sp_law) rfl (by decide) rfl ⟨rfl, by decide, by decide⟩ (fun w h Y => PySem.W.kIn_of Y) ?F ?S ?C
  case F =>
    intro w mg fa h KX G hmg
    have T : ∃ t, My.Txt (L2.KOf KX) t := by
      dsimp only [L2.KOf]                          -- K must stand as «<heap const> w.params» for k_is
      refine' My.txt_mk ?e1 ?e2 ?e3 ..
      (case e1 => PySem.W.k_is)                    -- in the order: a name -> its address -> its object -> its parts
      (case e2 => PySem.W.k_is)
      ..
    obtain ⟨t, T⟩ := T
    have e0 := hmg.symm.trans (PySem.W.mg_of KX G T.law)
    cases e0                                       -- fa is the law's own address
    exact ⟨_, fun s u => .of_eq rfl, fun base kb nb => My.law_fn T kb nb⟩     -- if «.of_eq rfl» comes too early: refine' ⟨_, ?b, fun base kb nb => My.law_fn T kb nb⟩; exact fun s u => .of_eq rfl
  case S => exact fun w H a ns hl hO hS => ..
  case C => exact ..
(the tactic k_is has no namespace: write k_is) -/

/-! SHORT WORDS over the layer: a def of the text, its body, what a loop and a test want. -/
namespace L2
open PySem PySem.Spec PyProof.Rows

/-! ### the text by places -/
/-- the j-th statement of a class's body -/
def inClass (s : Stmt) (j : Nat) : Stmt := match s with
  | .ClassDef _ _ _ body _ _ _ _ _ _ _ => body.getD j (.Pass ⟨0, 0, 0, 0⟩)
  | _ => .Pass ⟨0, 0, 0, 0⟩
def defArgs (s : Stmt) : Arguments := match s with
  | .FunctionDef _ a _ _ _ _ _ _ _ _ => a
  | _ => { posonlyargs := [], args := [], vararg := none, kwonlyargs := [], kw_defaults := [], kwarg := none, defaults := [] }
def defBody (s : Stmt) : List Stmt := match s with
  | .FunctionDef _ _ b _ _ _ _ _ _ _ => b
  | _ => []
def defScope (s : Stmt) : Scope := match s with
  | .FunctionDef _ _ _ _ _ _ sc _ _ _ => sc
  | _ => { kind := .function, names := [], isGenerator := false, isCoroutine := false }

/-! ### no exception leaves a def -/
abbrev CX0 : CXT := fun _ _ _ _ _ _ => False
abbrev E0 : XK := fun _ _ _ => False
theorem pass0 {X : Cx} : Passes CX0 X E0 := fun _ _ _ _ _ _ _ h => h.elim

/-! ### a def (or method) of the text as it stands behind the top -/
structure Fun (K : PySem.W.Frag) (x qual : Str) (st : Stmt) (f : Addr) (fd : FuncData) : Prop where
  ex : ∃ (oc : Value) (od : Option Addr) (kV doc pm : Value) (an : Option Addr) (cdv ct : Value) (osl : Array (Option Value)),
    fd = PySem.W.fnOf x qual (defArgs st) (defBody st) (defScope st) .none kV doc pm an cdv ct ∧ K.lookup f = some ⟨oc, od, .func fd, osl⟩ ∧ PySem.W.codeIn K cdv qual = true
  kp : PySem.W.keepIn K (.ref f) = true
section
variable {P : Program} {w : World} {K : PySem.W.Frag} {mg : Str → Option Value} {base : Heap}
/-- THE RULE for a def: its body as a term of rules, and the reading of that term -/
theorem Fun.ok {x qual : Str} {st : Stmt} {f : Addr} {fd : FuncData} {N ps : List Str} {k : Nat} {sp : Sp} (F : Fun K x qual st f fd) (S : FnScope N ps (defScope st)) (len : ∀ vs H Q E, sp vs H Q E → vs.length = ps.length)
    (hbody : ∀ (cdv : Value) (A : Around) (outer : List Env) (s : Shared) (H : Hp) (vs : List V) (Q : VK) (E : XK), Room k (A.deeper (envOfC qual (defScope st) s.heap.objs.size f cdv)) → sp vs H Q E →
      ∃ t, PSs (cxOf CX0 P w K mg base N qual (defScope st) f cdv A outer s H E).nox (defBody st) t ∧ t { nx := fun _ H' => Q .non H', rt := Q } (start N vs) H) : FnOk P w K mg base CX0 (k + 1) f fd ps sp := by
  obtain ⟨oc, od, kV, doc, pm, an, cdv, ct, osl, rfl, lk, hcd⟩ := F.ex
  refine fn_of lk hcd S len fun A outer s H vs Q E hr hsp => ?_
  obtain ⟨t, h, q⟩ := hbody cdv A outer s H vs Q E hr hsp
  exact ⟨t, h.nox, q⟩
/-- how its arguments bind (no defaults): h is «fun _ _ _ _ _ _ us hl => match us, hl with | [_, _], _ => rfl», one _ a parameter -/
theorem Fun.binds {x qual : Str} {st : Stmt} {f : Addr} {fd : FuncData} {ps : List Str} (F : Fun K x qual st f fd)
    (h : ∀ (kV doc pm : Value) (an : Option Addr) (cdv ct : Value) (us : List Value), us.length = ps.length → bindArgs (PySem.W.fnOf x qual (defArgs st) (defBody st) (defScope st) .none kV doc pm an cdv ct) ⟨us, []⟩ = pure (ps.zip us)) : Binds K fd ps [] := by
  obtain ⟨oc, od, kV, doc, pm, an, cdv, ct, osl, rfl, lk, hcd⟩ := F.ex
  exact .all (h kV doc pm an cdv ct)
theorem fun_mk {x qual : Str} {st : Stmt} {f : Addr} {oc : Value} {od an : Option Addr} {osl : Array (Option Value)} {kV doc pm cdv ct : Value} (l : K.lookup f = some ⟨oc, od, .func (PySem.W.fnOf x qual (defArgs st) (defBody st) (defScope st) .none kV doc pm an cdv ct), osl⟩)
    (c : PySem.W.codeIn K cdv qual = true) (k : PySem.W.keepIn K (.ref f) = true) : Fun K x qual st f (PySem.W.fnOf x qual (defArgs st) (defBody st) (defScope st) .none kV doc pm an cdv ct) := ⟨⟨oc, od, kV, doc, pm, an, cdv, ct, osl, rfl, l, c⟩, k⟩
end
theorem hu_of {A : Around} {k : Nat} (hr : Room k A) : A.units + 1 < cLine := Nat.lt_of_le_of_lt (Nat.add_le_add_left (by decide : 1 ≤ 64) _) hr.units
theorem small1000 {n : Nat} (h : n ≤ 1000) : n < sizeLine := Nat.lt_of_le_of_lt h (by decide)

/-! ### expressions in short: the name that stands in the i-th slot -/
section
variable {X : Cx}
theorem pv (i : Nat) {x : Str} {pos : Pos} (hN : X.N[i]? = some x := by rfl) (hv : Vis X.env.scope x := by first | exact Or.inl rfl | exact Or.inr (Or.inl rfl) | exact Or.inr (Or.inr rfl)) (hd : (x == ("__debug__" : Str)) = false := by decide)
    (hcd : (x == ("__classdict__" : Str)) = false := by decide) : PE X (.Name x pos) (tVar i) := pe_var hN hv hd hcd
end

/-! ### tests -/
theorem iteF {A B : Prop} (h : B) : if false = true then A else B := by
  rw [if_neg Bool.false_ne_true]
  exact h
theorem iteT {A B : Prop} (h : A) : if true = true then A else B := by
  rw [if_pos rfl]
  exact h
theorem ite2 {c A B : Prop} [Decidable c] (h1 : c → A) (h2 : ¬ c → B) : if c then A else B := by
  by_cases h : c
  · rw [if_pos h]
    exact h1 h
  · rw [if_neg h]
    exact h2 h
/-! ### heaps -/
/-- all that was tracked is as it was -/
def Same (H H' : Hp) : Prop := ∀ b o, H b = some o → H' b = some o
theorem Same.refl (H : Hp) : Same H H := fun _ _ h => h
theorem Same.trans {H H1 H2 : Hp} (a : Same H H1) (b : Same H1 H2) : Same H H2 := fun c o h => b c o (a c o h)
theorem Same.free {H H' : Hp} (e : Same H H') {l : Addr} (h : H' l = Option.none) : H l = Option.none := by
  cases q : H l with
  | none => rfl
  | some o =>
    rw [e l o q] at h
    cases h
theorem Same.seq {K : PySem.W.Frag} {H H' : Hp} {a : Addr} {xs : List V} (e : Same H H') (h : SqL K H a xs) : SqL K H' a xs := by
  rcases h with (h | ⟨o, h⟩) | h
  · exact .inl (.inl (e _ _ h))
  · exact .inl (.inr ⟨o, e _ _ h⟩)
  · exact .inr h

end L2

set_option Elab.async false
set_option linter.all false
set_option maxRecDepth 100000
/-! MY LAYER, 1: list comprehensions whose block may call, store, and read what it captures -/
namespace L2
open PySem PySem.Spec PyProof.Rows

def clOf (cells : List (Str × Addr)) : List (Str × NameKind) → List (Str × Addr) → List (Str × Addr)
  | [], acc => acc
  | (n, k) :: r, acc => if k == .free then clOf cells r ((n, (cells.lookup n).getD 0) :: acc) else clOf cells r acc

theorem closureFor_of {sc : Scope} {env : Env} (h : ∀ y ∈ sc.names, y.2 = .free → ∃ c, env.cells.lookup y.1 = some c) :
    closureFor sc env = pure (clOf env.cells sc.names []) := by
  have go : ∀ (names : List (Str × NameKind)) (acc : List (Str × Addr)), (∀ y ∈ names, y.2 = .free → ∃ c, env.cells.lookup y.1 = some c) →
      (forIn names acc fun (x : Str × NameKind) (r : List (Str × Addr)) => if (x.2 == NameKind.free) = true then (do let c ← cellOf env x.1; pure (ForInStep.yield ((x.1, c) :: r))) else pure (ForInStep.yield r) : Sem (List (Str × Addr))) = pure (clOf env.cells names acc) := by
    intro names
    induction names with
    | nil => intro acc _; rfl
    | cons y r ih =>
      intro acc hy
      obtain ⟨n, k⟩ := y
      rw [List.forIn_cons]
      cases hk : (k == NameKind.free) with
      | false =>
        have e1 : clOf env.cells ((n, k) :: r) acc = clOf env.cells r acc := by
          show (if (k == NameKind.free) = true then _ else _) = _
          rw [hk]; rfl
        rw [e1, ← ih acc fun z hz => hy z (List.mem_cons_of_mem _ hz)]
        simp only [hk, Bool.false_eq_true, if_false, pure_bind]
      | true =>
        have hk' : k = .free := by simpa using hk
        obtain ⟨c, hc⟩ := hy (n, k) List.mem_cons_self hk'
        have e1 : clOf env.cells ((n, k) :: r) acc = clOf env.cells r ((n, c) :: acc) := by
          show (if (k == NameKind.free) = true then _ else _) = _
          rw [hk, hc]; rfl
        have e2 : cellOf env n = pure c := by
          unfold cellOf
          rw [hc]
        rw [e1, ← ih ((n, c) :: acc) fun z hz => hy z (List.mem_cons_of_mem _ hz)]
        simp only [hk, if_true, e2, pure_bind]
  have q := go sc.names [] h
  unfold closureFor
  first
    | (rw [show (forIn sc.names ([] : List (Str × Addr)) _ : Sem (List (Str × Addr))) = pure (clOf env.cells sc.names []) from q]; rfl)
    | (simp only [bind_pure]; exact q)
    | exact q

theorem clOf_lookup (cells : List (Str × Addr)) : ∀ (names : List (Str × NameKind)) (acc : List (Str × Addr)) (x : Str) (c : Addr), (clOf cells names acc).lookup x = some c →
    (∃ y ∈ names, y.1 = x ∧ y.2 = .free ∧ c = (cells.lookup x).getD 0) ∨ acc.lookup x = some c
  | [], acc, x, c, h => .inr h
  | (n, k) :: r, acc, x, c, h => by
    by_cases hk : (k == NameKind.free) = true
    · have e : clOf cells ((n, k) :: r) acc = clOf cells r ((n, (cells.lookup n).getD 0) :: acc) := by
        show (if (k == NameKind.free) = true then _ else _) = _
        rw [if_pos hk]
      rw [e] at h
      rcases clOf_lookup cells r _ x c h with ⟨y, hy, q⟩ | q
      · exact .inl ⟨y, List.mem_cons_of_mem _ hy, q⟩
      · rw [List.lookup_cons] at q
        by_cases hx : (x == n) = true
        · rw [hx] at q
          have hx' : x = n := by simpa using hx
          subst hx'
          exact .inl ⟨(x, k), List.mem_cons_self, rfl, by simpa using hk, (Option.some.inj q).symm⟩
        · have hx' : (x == n) = false := by simpa using hx
          rw [hx'] at q
          exact .inr q
    · have e : clOf cells ((n, k) :: r) acc = clOf cells r acc := by
        show (if (k == NameKind.free) = true then _ else _) = _
        rw [if_neg hk]
      rw [e] at h
      rcases clOf_lookup cells r _ x c h with ⟨y, hy, q⟩ | q
      · exact .inl ⟨y, List.mem_cons_of_mem _ hy, q⟩
      · exact .inr q
theorem clOf_acc (cells : List (Str × Addr)) : ∀ (names : List (Str × NameKind)) (acc : List (Str × Addr)) (x : Str), ((∃ y ∈ names, y.1 = x ∧ y.2 = .free) ∨ ∃ c, acc.lookup x = some c) →
    ∃ c, (clOf cells names acc).lookup x = some c
  | [], acc, x, h => by
    rcases h with ⟨y, hy, _⟩ | h
    · cases hy
    · exact h
  | (n, k) :: r, acc, x, h => by
    by_cases hk : (k == NameKind.free) = true
    · have e : clOf cells ((n, k) :: r) acc = clOf cells r ((n, (cells.lookup n).getD 0) :: acc) := by
        show (if (k == NameKind.free) = true then _ else _) = _
        rw [if_pos hk]
      rw [e]
      refine clOf_acc cells r _ x ?_
      by_cases hx : (x == n) = true
      · exact .inr ⟨_, by rw [List.lookup_cons, hx]⟩
      · have hx' : (x == n) = false := by simpa using hx
        rcases h with ⟨y, hy, q⟩ | ⟨c, q⟩
        · rcases List.mem_cons.mp hy with rfl | hy
          · exact absurd (by simpa using q.1.symm) hx
          · exact .inl ⟨y, hy, q⟩
        · exact .inr ⟨c, by rw [List.lookup_cons, hx']; exact q⟩
    · have e : clOf cells ((n, k) :: r) acc = clOf cells r acc := by
        show (if (k == NameKind.free) = true then _ else _) = _
        rw [if_neg hk]
      rw [e]
      refine clOf_acc cells r _ x ?_
      rcases h with ⟨y, hy, q⟩ | h
      · rcases List.mem_cons.mp hy with rfl | hy
        · exact absurd (by simpa using q.2) hk
        · exact .inl ⟨y, hy, q⟩
      · exact .inr h

/-- what is to be seen of a block's names: N the names ahead, N' those within (the first as ahead, where they're captured), o the scope ahead, c the block's -/
structure CompSc (N N' : List Str) (o c : Scope) : Prop where
  kind : c.kind = .function
  okind : o.kind = .function
  nocell : ∀ y ∈ c.names, y.2 ≠ .cell
  loc : ∀ y ∈ c.names, y.2 = .local → c.names.lookup y.1 = some .local
  free : ∀ y ∈ c.names, y.2 = .free → c.names.lookup y.1 = some .free ∧ (o.names.lookup y.1 = some .cell ∨ o.names.lookup y.1 = some .free)
  len : N.length ≤ N'.length
  same : ∀ i ∈ List.range N.length, ∀ x ∈ N'[i]?, c.names.lookup x = some .local ∨ c.names.lookup x = some .free → c.names.lookup x = some .free ∧ N[i]? = some x
  nd : N'.Nodup

def compCx (X : Cx) (c : Scope) (N' : List Str) (C : Addr) (s : Shared) (H : Hp) (fp : List Addr) : Cx :=
  { X with N := N', s₀ := s, H₀ := H, env := compEnvC c (clOf X.env.cells c.names []) C X.env, outer := X.stack, stack := X.stack, ex := fp, fn := fun _ => false, pn := [], xe := fun _ _ => False }

theorem relabel_lookup {env : Env} (hf : env.scope.kind = .function) : ∀ (names : List (Str × NameKind)) (x : Str),
    (names.map fun (p : Str × NameKind) => if (p.2 == NameKind.free && env.scope.kind == .function && env.kindOf p.1 == some .cell) = true then (p.1, NameKind.cell) else (p.1, p.2)).lookup x =
      match names.lookup x with
      | some .free => if env.kindOf x = some .cell then some .cell else some .free
      | k => k
  | [], x => rfl
  | (n, k) :: r, x => by
    have ih := relabel_lookup hf r x
    rw [List.map_cons]
    by_cases hx : (x == n) = true
    · have hx' : x = n := by simpa using hx
      subst hx'
      have e2 : List.lookup x ((x, k) :: r) = some k := by rw [List.lookup_cons]; simp
      rw [e2]
      by_cases hk : k = .free
      · subst hk
        by_cases hc : env.kindOf x = some .cell
        · simp [List.lookup_cons, hf, hc]
        · simp [List.lookup_cons, hf, hc]
      · have hk' : (k == NameKind.free) = false := by simpa using hk
        rw [hk']
        simp only [Bool.false_and, Bool.false_eq_true, if_false, List.lookup_cons, beq_self_eq_true]
        all_goals (cases k <;> first | rfl | exact absurd rfl hk)
    · have hx' : (x == n) = false := by simpa using hx
      have e2 : List.lookup x ((n, k) :: r) = List.lookup x r := by rw [List.lookup_cons, hx']
      rw [e2, ← ih]
      by_cases hc : (k == NameKind.free && env.scope.kind == .function && env.kindOf n == some .cell) = true
      · simp only [hc, if_true, List.lookup_cons, hx']
      · simp only [hc, if_false, List.lookup_cons, hx', Bool.false_eq_true]

section
variable {X : Cx} {N N' : List Str} {o c : Scope}
theorem comp_kind (S : CompSc N N' o c) (ho : X.env.scope = o) (cl : List (Str × Addr)) (C : Addr) (x : Str) : (compEnvC c cl C X.env).kindOf x =
    match c.names.lookup x with
    | some .free => if X.env.kindOf x = some .cell then some .cell else some .free
    | k => k := relabel_lookup (env := X.env) (by rw [ho]; exact S.okind) c.names x

theorem lookup_mem {names : List (Str × NameKind)} {x : Str} {k : NameKind} (h : names.lookup x = some k) : (x, k) ∈ names := PySem.mem_of_lookup h

/-- a captured name's cell is the one ahead -/
theorem comp_cell (S : CompSc N N' o c) (ho : X.env.scope = o) (ok : X.Ok) {x : Str} {a : Addr} (h : (clOf X.env.cells c.names []).lookup x = some a) :
    X.env.cells.lookup x = some a ∧ c.names.lookup x = some .free := by
  rcases clOf_lookup _ _ _ _ _ h with ⟨y, hy, rfl, hf, e⟩ | q
  · have hk := S.free y hy hf
    have hv : X.env.kindOf y.1 = some .cell ∨ X.env.kindOf y.1 = some .free := by
      show X.env.scope.names.lookup y.1 = _ ∨ X.env.scope.names.lookup y.1 = _
      rw [ho]; exact hk.2
    obtain ⟨b, hb⟩ := ok.has y.1 hv
    rw [hb] at e
    exact ⟨by rw [hb, e]; rfl, hk.1⟩
  · cases q
theorem comp_has (S : CompSc N N' o c) (ho : X.env.scope = o) (ok : X.Ok) {x : Str} (h : c.names.lookup x = some .free) : ∃ a, (clOf X.env.cells c.names []).lookup x = some a ∧ X.env.cells.lookup x = some a := by
  obtain ⟨a, ha⟩ := clOf_acc X.env.cells c.names [] x (.inl ⟨(x, .free), lookup_mem h, rfl, rfl⟩)
  exact ⟨a, ha, (comp_cell S ho ok ha).1⟩

/-- the context within -/
theorem comp_ok (S : CompSc N N' o c) (ho : X.env.scope = o) {pins : List (Addr × Obj)} {σ : St} {H : Hp} {s : Shared} {fp : List Addr} (I : Inv X pins σ H s)
    (hf : ∀ b ∈ fp, FpOk X pins H b) (ht : ∀ b ∈ fp, b < s.heap.objs.size) : (compCx X c N' s.heap.objs.size s H fp).Ok where
  mod := I.ok.mod
  kind := S.kind
  glob := I.ok.glob
  blt := I.ok.blt
  above := Nat.le_refl _
  inj := fun x y a h1 h2 => I.ok.inj x y a (comp_cell S ho I.ok h1).1 (comp_cell S ho I.ok h2).1
  has := fun x hx => by
    have e := comp_kind (X := X) S ho (clOf X.env.cells c.names []) s.heap.objs.size x
    have hx' : (compEnvC c (clOf X.env.cells c.names []) s.heap.objs.size X.env).kindOf x = some .cell ∨ (compEnvC c (clOf X.env.cells c.names []) s.heap.objs.size X.env).kindOf x = some .free := hx
    rw [e] at hx'
    cases q : c.names.lookup x with
    | none => rw [q] at hx'; rcases hx' with z | z <;> cases z
    | some k =>
      by_cases hk : k = .free
      · subst hk
        obtain ⟨a, ha, _⟩ := comp_has S ho I.ok q
        exact ⟨a, ha⟩
      · rw [q] at hx'
        have hc : k = .cell := by
          cases k <;> first | rfl | exact absurd rfl hk | (rcases hx' with z | z <;> cases z)
        subst hc
        exact absurd rfl (S.nocell _ (lookup_mem q))
  cab := fun x a h => by cases (show false = true from h)
  hd := I.ok.hd
  frames := I.ok.frames
  stk := .inl rfl
  exf := fun b hb => ⟨Nat.ne_of_lt (ht b hb), fun x a h => (hf b hb).2.2.2.2.1 x a (comp_cell S ho I.ok h).1⟩
  bs := fun b ob e => I.bs b ob e
  bsz := Nat.le_trans I.ok.bsz I.sz
  noex := fun b ob e hb => by
    rcases (hf b hb).2.2.2.1 with z | z
    · exact I.ok.noex b ob e z
    · exact absurd (Nat.lt_of_lt_of_le (Heap.lt_size e) (Nat.le_trans I.ok.bsz z)) (Nat.lt_irrefl _)
  exfs := fun b hb hb' => by
    rcases List.mem_cons.mp (I.stkSub b hb') with z | z
    · exact (hf b hb).2.1 z
    · exact (hf b hb).2.2.1 z
  funs := I.stack
  frf := I.stkFree

/-- the block's entry -/
theorem comp_inv (S : CompSc N N' o c) (hN : X.N = N) (ho : X.env.scope = o) {pins : List (Addr × Obj)} {σ : St} {H : Hp} {s : Shared} {fp : List Addr} {h₁ : Heap} {tk : Nat} {m₀ : Str → Option Value} (I : Inv X pins σ H s)
    (hf : ∀ b ∈ fp, FpOk X pins H b) (ht : ∀ b ∈ fp, b < s.heap.objs.size) (hns : h₁.Ns s.heap.objs.size m₀) (hk : ∀ b ob, s.heap.get? b = some ob → h₁.get? b = some ob) :
    Inv (compCx X c N' s.heap.objs.size s H fp) [] (σ ++ List.replicate (N'.length - N.length) none) H { s with heap := h₁, toks := tk } where
  ok := comp_ok S ho I hf ht
  os := rfl
  bare := I.bare
  base := Un.kept hk
  loc := by
    refine ⟨m₀, hns, fun i x v e1 e2 e3 => ?_⟩
    obtain ⟨m, hn, hl⟩ := I.loc
    have hlen : σ.length = N.length := by rw [I.len, hN]
    have hi : i < σ.length := by
      by_cases hi : i < σ.length
      · exact hi
      · rw [List.getElem?_append_right (by omega), List.getElem?_replicate] at e2
        split at e2 <;> cases e2
    have e2' : σ[i]? = some (some v) := by rw [List.getElem?_append_left hi] at e2; exact e2
    have kd := comp_kind (X := X) S ho (clOf X.env.cells c.names []) s.heap.objs.size x
    have vis : c.names.lookup x = some .local ∨ c.names.lookup x = some .free := by
      have e3' : (compEnvC c (clOf X.env.cells c.names []) s.heap.objs.size X.env).kindOf x = some .local ∨ (compEnvC c (clOf X.env.cells c.names []) s.heap.objs.size X.env).kindOf x = some .cell ∨ (compEnvC c (clOf X.env.cells c.names []) s.heap.objs.size X.env).kindOf x = some .free := e3
      rw [kd] at e3'
      cases q : c.names.lookup x with
      | none => rw [q] at e3'; rcases e3' with z | z | z <;> cases z
      | some k =>
        cases k with
        | «local» => exact .inl rfl
        | free => exact .inr rfl
        | cell => exact absurd rfl (S.nocell _ (lookup_mem q))
        | _ => rw [q] at e3'; rcases e3' with z | z | z <;> cases z
    obtain ⟨hfr, hNi⟩ := S.same i (List.mem_range.mpr (by omega)) x (by rw [show N'[i]? = some x from e1]; rfl) vis
    have hok : X.env.kindOf x = some .cell ∨ X.env.kindOf x = some .free := by
      show X.env.scope.names.lookup x = _ ∨ X.env.scope.names.lookup x = _
      rw [ho]; exact (S.free _ (lookup_mem hfr) rfl).2
    obtain ⟨u, r, l⟩ := hl i x v (by rw [hN]; exact hNi) e2' (.inr hok)
    refine ⟨u, r, .inr ⟨?_, ?_⟩⟩
    · show (compEnvC c (clOf X.env.cells c.names []) s.heap.objs.size X.env).kindOf x = some .cell ∨ (compEnvC c (clOf X.env.cells c.names []) s.heap.objs.size X.env).kindOf x = some .free
      rw [kd, hfr]
      show (if X.env.kindOf x = some .cell then some NameKind.cell else some NameKind.free) = some .cell ∨ (if X.env.kindOf x = some .cell then some NameKind.cell else some NameKind.free) = some .free
      by_cases q : X.env.kindOf x = some .cell
      · rw [if_pos q]; exact .inl rfl
      · rw [if_neg q]; exact .inr rfl
    · obtain ⟨a, ha, ha'⟩ := comp_has S ho I.ok hfr
      refine ⟨a, ha, ?_⟩
      rcases l with ⟨z, _⟩ | ⟨_, a', e, ob, hob, hd⟩
      · rcases hok with q | q <;> rw [q] at z <;> cases z
      · rw [ha'] at e; cases e
        exact ⟨ob, hk _ _ hob, hd⟩
  cell := fun x a h => by
    obtain ⟨v, ob, e, d⟩ := I.cell x a (comp_cell S ho I.ok h).1
    exact ⟨v, ob, hk _ _ e, d⟩
  free := I.hok.fresh (Nat.le_refl _)
  freeC := fun x a h => I.freeC x a (comp_cell S ho I.ok h).1
  pin := fun p hp => absurd (show p ∈ ([] : List (Addr × Obj)) from hp) (by simp)
  hok := I.hok.kept hk
  len := by
    have hlen : σ.length = N.length := by rw [I.len, hN]
    have := S.len
    show (σ ++ List.replicate (N'.length - N.length) none).length = N'.length
    rw [List.length_append, List.length_replicate]
    omega
end
end L2

set_option Elab.async false
set_option linter.all false
set_option maxRecDepth 100000
namespace L2
open PySem PySem.Spec PyProof.Rows

/-- the tests of a clause -/
abbrev testsOf (ifs : List Expr) (env : Env) : Sem Bool :=
  forIn ifs true fun k r => if r = true then do let ok ← isTrue k env (eval k env); pure (ForInStep.yield ok) else pure (ForInStep.yield r)
def PTs (X : Cx) (ifs : List Expr) (t : TT) : Prop :=
  ∀ (pins : List (Addr × Obj)) (s : Shared) (σ : St) (H : Hp) (Q : Bool → Hp → Prop), Inv X pins σ H s → t σ H Q → wpAny (model X.prog X.w) X.A (testsOf ifs X.env) (TP X pins σ Q) X.xe s
def tYes : TT := fun _ H Q => Q true H
theorem pts_nil {X : Cx} : PTs X [] tYes := fun _ _ _ H _ I h => wpAny_tests_nil ⟨H, I, h⟩
section
variable {prog : Program} {w : World} {A : Around} {R : Result → Shared → Prop} {s : Shared}
/-- a block's loop with any target -/
theorem compLoop_any {elt target iter : Expr} {ifs : List Expr} {scope : Scope} {pos : Pos} {it acc : Value} {env : Env} {E : Value → Shared → Prop} (I : Nat → Shared → Prop)
    (hE : ∀ e s', E e s' → False)
    (turn : ∀ n s, I n s → wpAny (model prog w) A (pyNext it) (fun r s₁ => match r with
      | none => R (.ok .next) s₁
      | some v => wpAny (model prog w) A (letOwnedTupleGo target it v) (fun _ s₀ => wpAny (model prog w) A (assign target env v) (fun _ s₂ =>
          wpAny (model prog w) A (testsOf ifs env) (fun ok s₃ =>
            if ok = true then wpAny (model prog w) A (eval elt env) (fun x s₄ =>
              wpAny (model prog w) A (call (.builtin "list.append") [acc, x]) (fun _ s₅ => ∃ m, m < n ∧ I m s₅) E s₄) E s₃
            else ∃ m, m < n ∧ I m s₃) E s₂) E s₀) E s₁) E s)
    (n : Nat) (h : I n s) : codeAny (model prog w) A (.compLoop (.ListComp elt [⟨target, iter, ifs, 0⟩] scope pos) 0 it acc env) R s := by
  have go : ∀ {α : Type} {t : Sem α} {Q : α → Shared → Prop} {s : Shared}, wpAny (model prog w) A t Q E s → wpAny (model prog w) A t Q (notedBy (model prog w) A env fun e s' => R (.error e) s') s :=
    fun {α t Q s} q => wpAny_mono q (fun _ _ z => z) fun e s' z => (hE e s' z).elim
  refine codeAny_loop rfl I (fun n s hI => ?_) n h
  show wpAny _ A ((compTurn (.ListComp elt [⟨target, iter, ifs, 0⟩] scope pos) 0 it acc env).onRaise (fun x => do noteFrame x env; theTreesLotGoes x)) _ _ s
  refine wpAny_noted ?_
  rw [compTurn_list]
  refine wpAny_bind (wpAny_standAt (wpAny_bind (thn (go (turn n s hI)) fun r s₁ h₁ => ?_)))
  cases r with
  | none => exact wpAny_pure h₁
  | some v =>
    refine wpAny_bind (thn (go h₁) fun _ s₀ h₀ => wpAny_bind (thn (go h₀) fun _ s₂ h₂ => wpAny_bind (thn (go h₂) fun ok s₃ h₃ => ?_)))
    cases ok with
    | false => exact wpAny_pure ⟨rfl, h₃⟩
    | true =>
      exact wpAny_bind (wpAny_bind (thn (go h₃) fun x s₄ h₄ => wpAny_bind (thn (go h₄) fun _ s₅ h₅ => wpAny_pure (wpAny_pure ⟨rfl, h₅⟩))))
end

/-- what a comprehension's turns ask, J given: W by the turn, a measure, what has been gathered -/
def CompGo (J : It) (D : Addr) (k : Nat) (σ : St) (H1 : Hp) (g : TG) (tc : TT) (te : TE) (Q : VK) : Prop :=
  ∃ W : Nat → Nat → List V → St → Hp → Prop, (∃ m, W 0 m [] (σ ++ List.replicate k none) (upd H1 D (.lst []))) ∧
    ∀ i m ys σ2 H2, W i m ys σ2 H2 → (J.stop i H2 ∧ Q (.ref D) H2) ∨
      (J.go i H2 ∧ ∃ N : List V → St → Hp → Prop, (∀ ys' σ' H', N ys' σ' H' → ∃ m', m' < m ∧ W (i + 1) m' ys' σ' H') ∧ ∀ x H3, J.yld i H2 x H3 → g x σ2 H3 fun σ4 H4 => tc σ4 H4 fun b H5 =>
        if b = true then te σ4 H5 fun y H6 => H6 D = some (.lst ys) ∧ ys.length < sizeLine ∧ N (ys ++ [y]) σ4 (upd H6 D (.lst (ys ++ [y]))) else N ys σ4 H5)
def tComp (n : Nat) (wi : TI) (g : TG) (tc : TT) (te : TE) : TE := fun σ H Q => wi σ H fun J H1 => ∀ D, H1 D = none → CompGo J D n σ H1 g tc te Q

section
variable {X : Cx} {N N' : List Str} {o c : Scope}
theorem comp_run {elt tg iter : Expr} {ifs : List Expr} {pos pos' : Pos} {wi : TI} {g : TG} {tc : TT} {te : TE} {use : Option (Value → Sem Unit)} {QQ : Value → Shared → Prop} (S : CompSc N N' o c) (hN : X.N = N) (ho : X.env.scope = o) (hc : X.calm = true)
    (hi : PI X tg iter wi) (hg : ∀ C s H fp, PG (compCx X c N' C s H fp) tg g) (ht : ∀ C s H fp, PTs (compCx X c N' C s H fp) ifs tc) (he : ∀ C s H fp, PE (compCx X c N' C s H fp) elt te)
    (hs : ∀ x, foldedSetIterable iter X.env x = pure x) {pins : List (Addr × Obj)} {s : Shared} {σ : St} {H : Hp} {Q : VK} (I : Inv X pins σ H s) (h : tComp (N'.length - N.length) wi g tc te σ H Q)
    (post : ∀ (D C : Addr) (s5 : Shared) (H5 : Hp) (m : Str → Option Value), Inv X pins σ H5 s5 → H5 C = none → s5.heap.Ns C m → C ≠ X.env.locals → X.s₀.heap.objs.size ≤ C → (∀ x a, X.env.cells.lookup x = some a → a ≠ C) → (∀ p ∈ X.pn ++ pins, p.1 ≠ C) →
      Q (.ref D) H5 → compPost (model X.prog X.w) X.A X.xe use QQ (.ref D) C (.ok .next) s5) :
    wpAny (model X.prog X.w) X.A (comprehension (.ListComp elt [⟨tg, iter, ifs, 0⟩] c pos) c X.env pos' (newList []) false (eval iter X.env) use) QQ X.xe s := by
  have hclos : closureFor c X.env = pure (clOf X.env.cells c.names []) := closureFor_of fun y hy hf => by
    refine I.ok.has y.1 ?_
    show X.env.scope.names.lookup y.1 = _ ∨ X.env.scope.names.lookup y.1 = _
    rw [ho]; exact (S.free y hy hf).2
  refine wpAny_comprehension_free (use := use) rfl hs hclos S.kind S.loc (thn (hi pins s σ H _ I h) fun v s1 h1 => thn h1 fun itv s2 h2 => ?_)
  obtain ⟨it, fp, tn, J, H2, e, I2, T, st2, f2, hR⟩ := h2
  subst e
  have hD : H2 s2.heap.objs.size = none := I2.fresh
  have I3 : Inv X pins σ (upd H2 s2.heap.objs.size (.lst [])) { s2 with heap := s2.heap.push { cls := .type "list", data := .seq ([] : List Value).toArray } } :=
    I2.lnew (ys := []) (its := []) (t' := s2.toks) .nil (Nat.zero_le _)
  have fpl : ∀ b ∈ fp, b < s2.heap.objs.size := fun b hb => by
    obtain ⟨ob, e, _⟩ := T.obj 0 _ st2 b hb
    exact Heap.lt_size e
  refine wpAny_newObj_type (wpAny_newFunctionEnv S.nocell (by intro y hy; simp at hy) (fun h₁ hns₁ hsb₁ => ?_) S.kind)
  have e3 : ∃ s3 : Shared, s3 = { s2 with heap := s2.heap.push { cls := .type "list", data := .seq ([] : List Value).toArray } } := ⟨_, rfl⟩
  obtain ⟨s3, hs3⟩ := e3
  have e3 : s3.heap = s2.heap.push { cls := .type "list", data := .seq ([] : List Value).toArray } := by rw [hs3]
  have sz3 : s3.heap.objs.size = s2.heap.objs.size + 1 := by rw [e3, Heap.size_push]
  have fpl3 : ∀ b ∈ fp, b < s3.heap.objs.size := fun b hb => Nat.lt_of_lt_of_le (fpl b hb) (by rw [sz3]; exact Nat.le_succ _)
  have f3 : ∀ b ∈ fp, FpOk X pins (upd H2 s2.heap.objs.size (.lst [])) b := fun b hb => ⟨by rw [upd_ne (Nat.ne_of_lt (fpl b hb))]; exact (f2 b hb).1, (f2 b hb).2⟩
  have st3 : tn 0 s3.heap := T.keep 0 _ _ st2 fun b _ ob e => by rw [e3]; exact Heap.get?_push_of_some _ e
  rw [← hs3] at I3
  show codeAny (model X.prog X.w) X.A (.compStart _ 0 (.ref it) (.ref s2.heap.objs.size) (compEnvC c (clOf X.env.cells c.names []) (s2.heap.push { cls := .type "list", data := .seq ([] : List Value).toArray }).objs.size X.env))
    (compPost (model X.prog X.w) X.A X.xe use QQ (.ref s2.heap.objs.size) (s2.heap.push { cls := .type "list", data := .seq ([] : List Value).toArray }).objs.size)
    { s2 with heap := h₁, toks := s2.toks + ([] : List (Str × Value)).length }
  have hns : h₁.Ns s3.heap.objs.size (fun x => ([] : List (Str × Value)).reverse.lookup x) := by rw [e3]; exact hns₁
  have hk1 : ∀ b ob, s3.heap.get? b = some ob → h₁.get? b = some ob := fun b ob e => by
    rw [e3] at e
    exact hsb₁.extBut b ob (Nat.ne_of_lt (Heap.lt_size e)) (Heap.get?_push_of_some _ e)
  rw [← e3]
  have es4 : ({ s2 with heap := h₁, toks := s2.toks + ([] : List (Str × Value)).length } : Shared) = { s3 with heap := h₁, toks := s2.toks } := by rw [hs3]; rfl
  rw [es4]
  obtain ⟨W, ⟨m0, w0⟩, turn⟩ := hR s2.heap.objs.size hD
  have I4 := comp_inv (tk := s2.toks) S hN ho I3 f3 fpl3 hns hk1
  have st4 : tn 0 h₁ := T.keep 0 _ _ st3 fun b _ ob e => hk1 b ob e
  generalize hX : compCx X c N' s3.heap.objs.size s3 (upd H2 s2.heap.objs.size (.lst [])) fp = Y at I4
  have Yp : Y.prog = X.prog := by rw [← hX]; rfl
  have Yw : Y.w = X.w := by rw [← hX]; rfl
  have YK : Y.K = X.K := by rw [← hX]; rfl
  have Yc : Y.calm = true := by rw [← hX]; exact hc
  have YA : Y.A = X.A := by rw [← hX]; rfl
  have Yenv : Y.env = compEnvC c (clOf X.env.cells c.names []) s3.heap.objs.size X.env := by rw [← hX]; rfl
  have Yl : Y.env.locals = s3.heap.objs.size := by rw [Yenv]; rfl
  have Yxe : Y.xe = fun _ _ => False := by rw [← hX]; rfl
  have hg' := hg s3.heap.objs.size s3 (upd H2 s2.heap.objs.size (.lst [])) fp
  have ht' := ht s3.heap.objs.size s3 (upd H2 s2.heap.objs.size (.lst [])) fp
  have he' := he s3.heap.objs.size s3 (upd H2 s2.heap.objs.size (.lst [])) fp
  rw [hX] at hg' ht' he'
  have stat : ∀ {H' : Hp}, (∀ b ∈ fp, H' b = none) → ∀ b ∈ fp, FpOk Y [] H' b := fun {H'} hn b hb => by
    obtain ⟨_, q1, q2, q3, q4, _⟩ := f3 b hb
    have z1 := I4.ok.exf b (by rw [← hX]; exact hb)
    refine ⟨hn b hb, z1.1, I4.ok.exfs b (by rw [← hX]; exact hb), .inl (by rw [← hX]; exact hb), z1.2, fun p hp => ?_⟩
    have hp' : p ∈ ([] : List (Addr × Obj)) := by
      have : Y.pn = [] := by rw [← hX]; rfl
      rw [this] at hp; exact hp
    cases hp'
  have fin : ∀ (s5 : Shared) (σ5 : St) (H5 : Hp), Inv Y [] σ5 H5 s5 → Q (.ref s2.heap.objs.size) H5 → compPost (model X.prog X.w) X.A X.xe use QQ (.ref s2.heap.objs.size) s3.heap.objs.size (.ok .next) s5 := fun s5 σ5 H5 I5 q => by
    obtain ⟨m, hn, _⟩ := id I5.loc
    rw [Yl] at hn
    have hCn : H5 s3.heap.objs.size = none := by have := I5.free; rw [Yl] at this; exact this
    have un : Un (frs X.stack) fp (upd H2 s2.heap.objs.size (.lst [])) H5 s3.heap s5.heap := by
      have := I5.base
      rw [← hX] at this
      exact this
    have os5 : s5.os = s3.os := by have := I5.os; rw [← hX] at this; exact this
    have hok5 : HOk X.prog X.w H5 s5.heap := by
      have := I5.hok
      rw [Yp, Yw] at this
      exact this
    refine post _ _ s5 H5 m (I3.call' (s' := s5) (ch := fp) os5 un hok5 I5.bare fun b hb => ?_) hCn hn (Nat.ne_of_gt I3.lt) I3.sz (fun x a e => ?_) (fun p hp => ?_) q
    · obtain ⟨_, q1, _, q3, q4, q5⟩ := f3 b hb
      exact ⟨q3, q1, q4, q5⟩
    · obtain ⟨v, ob, e', _⟩ := I3.cell x a e
      exact Nat.ne_of_lt (Heap.lt_size e')
    · exact Nat.ne_of_lt (Heap.lt_size (I3.pin p hp).1)
  have loop : codeAny (model X.prog X.w) X.A (.compLoop (.ListComp elt [⟨tg, iter, ifs, 0⟩] c pos) 0 (.ref it) (.ref s2.heap.objs.size) (compEnvC c (clOf X.env.cells c.names []) s3.heap.objs.size X.env))
      (compPost (model X.prog X.w) X.A X.xe use QQ (.ref s2.heap.objs.size) s3.heap.objs.size) { s3 with heap := h₁, toks := s2.toks } := by
    rw [← Yenv, ← YA]
    refine compLoop_any (E := fun _ _ => False) (fun n s' => ∃ i ys σ' H', Inv Y [] σ' H' s' ∧ tn i s'.heap ∧ (∀ b ∈ fp, H' b = none) ∧ W i n ys σ' H') (fun _ _ z => z) ?_ m0
      ⟨0, [], _, _, I4, st4, fun b hb => (f3 b hb).1, ?_⟩
    · rintro n s5 ⟨i, ys, σ5, H5, I5, st5, fr5, w5⟩
      rcases turn i n ys σ5 H5 w5 with ⟨stop, qn⟩ | ⟨go, Nn, hNn, step⟩
      · refine thn (T.done Y Yp Yw YK Yc i [] s5 σ5 H5 _ I5 (stat fr5) st5 stop) fun r s6 ⟨hr, I6⟩ => ?_
        subst hr
        have fq := fin s6 σ5 H5 I6 qn
        rw [← YA] at fq
        exact fq
      · refine thn (T.item Y Yp Yw YK Yc i [] s5 σ5 H5 _ I5 (stat fr5) st5 go) fun r s6 ⟨u, hr, h6⟩ => ?_
        subst hr
        refine thn h6 fun _ s7 ⟨x, H7, I7, r7, y7, st7, fr7⟩ => ?_
        have I7' := I7.pinned (stat fr7) (T.obj _ _ st7)
        have back : ∀ {σ9 : St} {H9 : Hp} {s9 : Shared}, Inv Y ([] ++ pinsAt fp s7.heap) σ9 H9 s9 → Inv Y [] σ9 H9 s9 ∧ tn (i + 1) s9.heap ∧ ∀ b ∈ fp, H9 b = none := fun {σ9 H9 s9} I9 => by
          refine ⟨I9.unpinned, T.keep _ _ _ st7 fun b hb ob e => (I9.pin (b, ob) (List.mem_append_right _ (List.mem_append_right _ (mem_pinsAt hb e)))).1, fun b hb => ?_⟩
          obtain ⟨ob, e, d⟩ := T.obj _ _ st7 b hb
          exact (I9.pin (b, ob) (List.mem_append_right _ (List.mem_append_right _ (mem_pinsAt hb e)))).2.1
        have P1 := hg' _ s7 σ5 H7 x u _ I7' r7 (step x H7 y7)
        rw [Yp, Yw, Yxe] at P1
        refine thn P1 fun _ s8 ⟨σ8, H8, I8, q8⟩ => ?_
        have P2 := ht' _ s8 σ8 H8 _ I8 q8
        rw [Yp, Yw, Yxe] at P2
        refine thn P2 fun ok s9 ⟨H9, I9, q9⟩ => ?_
        cases ok with
        | false =>
          rw [if_neg Bool.false_ne_true] at q9
          rw [if_neg Bool.false_ne_true]
          obtain ⟨b1, b2, b3⟩ := back I9
          obtain ⟨m', hm', w9⟩ := hNn _ _ _ q9
          exact ⟨m', hm', i + 1, ys, σ8, H9, b1, b2, b3, w9⟩
        | true =>
          rw [if_pos rfl] at q9
          rw [if_pos rfl]
          have P3 := he' _ s9 σ8 H9 _ I9 q9
          rw [Yp, Yw, Yxe] at P3
          refine thn P3 fun y s10 ⟨vy, H10, I10, r10, hDl, hsz, q10⟩ => ?_
          have P4 := mt_append (X := Y) _ s10 σ8 H10 (.ref s2.heap.objs.size) [vy] (.ref s2.heap.objs.size) [y] (fun _ H' => Nn (ys ++ [vy]) σ8 H') I10 rfl (.cons r10 .nil) ⟨_, ys, vy, rfl, rfl, hDl, hsz, q10⟩
          rw [Yp, Yw, Yxe] at P4
          refine thn P4 fun _ s11 ⟨_, H11, I11, _, q11⟩ => ?_
          obtain ⟨b1, b2, b3⟩ := back I11
          obtain ⟨m', hm', w11⟩ := hNn _ _ _ q11
          exact ⟨m', hm', i + 1, ys ++ [vy], σ8, H11, b1, b2, b3, w11⟩
    · exact w0
  have lp := T.self X.A 0 { s3 with heap := h₁, toks := s2.toks } (fun it' s' => codeAny (model X.prog X.w) X.A (.compLoop (.ListComp elt [⟨tg, iter, ifs, 0⟩] c pos) 0 it' (.ref s2.heap.objs.size) (compEnvC c (clOf X.env.cells c.names []) s3.heap.objs.size X.env))
      (compPost (model X.prog X.w) X.A X.xe use QQ (.ref s2.heap.objs.size) s3.heap.objs.size) s') (fun _ _ => False) st4 loop
  exact codeAny_compStart_list loop (wpAny_mono lp (fun _ _ z => z) fun _ _ z => z.elim)
theorem Inv.let {pins : List (Addr × Obj)} {σ : St} {H : Hp} {s : Shared} {C : Addr} {h' : Heap} (I : Inv X pins σ H s) (hn : H C = none) (hL : C ≠ X.env.locals) (h1 : X.s₀.heap.objs.size ≤ C)
    (h2 : ∀ x a, X.env.cells.lookup x = some a → a ≠ C) (h3 : ∀ p ∈ X.pn ++ pins, p.1 ≠ C) (hs : Heap.SameBut C s.heap h') : Inv X pins σ H { s with heap := h' } :=
  I.turned (t' := s.toks) (fun b ob hb e => hs.extBut b ob hb e) hn hL (.inr h1) h2 h3
theorem pe_comp {elt tg iter : Expr} {ifs : List Expr} {pos : Pos} {wi : TI} {g : TG} {tc : TT} {te : TE} (S : CompSc N N' o c) (hN : X.N = N) (ho : X.env.scope = o) (hc : X.calm = true)
    (hi : PI X tg iter wi) (hg : ∀ C s H fp, PG (compCx X c N' C s H fp) tg g) (ht : ∀ C s H fp, PTs (compCx X c N' C s H fp) ifs tc) (he : ∀ C s H fp, PE (compCx X c N' C s H fp) elt te)
    (hs : ∀ x, foldedSetIterable iter X.env x = pure x := by intro _; rfl) :
    PE X (.ListComp elt [⟨tg, iter, ifs, 0⟩] c pos) (tComp (N'.length - N.length) wi g tc te) := by
  intro pins s σ H Q I h
  rw [eval_ListComp]
  refine comp_run (use := none) S hN ho hc hi hg ht he hs I h fun D C s5 H5 m I5 hCn hn n1 n2 n3 n4 q => ⟨m, hn, fun h' hsb => ?_⟩
  exact ⟨.ref D, H5, I5.let hCn n1 n2 n3 n4 hsb, rfl, q⟩
/-- x = [.. for ..], where the model stores ahead of letting the block's names go -/
theorem ps_setComp {i : Nat} {x : Str} {elt tg iter : Expr} {ifs : List Expr} {pos pos' spos : Pos} {wi : TI} {g : TG} {tc : TT} {te : TE} (hnd : X.N.Nodup) (hx : X.N[i]? = some x) (hl : Loc X.env.scope x) (S : CompSc N N' o c) (hN : X.N = N) (ho : X.env.scope = o) (hc : X.calm = true)
    (hi : PI X tg iter wi) (hg : ∀ C s H fp, PG (compCx X c N' C s H fp) tg g) (ht : ∀ C s H fp, PTs (compCx X c N' C s H fp) ifs tc) (he : ∀ C s H fp, PE (compCx X c N' C s H fp) elt te)
    (hsw : swapsWith (.ListComp elt [⟨tg, iter, ifs, 0⟩] c pos) (some (.Name x pos')) spos.line X.env = pure true)
    (hs : ∀ x, foldedSetIterable iter X.env x = pure x := by intro _; rfl) (hf : X.fn x = true ∨ X.env.scope.names.lookup x = some .local := by first | exact .inl rfl | exact .inr rfl | assumption) :
    PS X (.Assign [.Name x pos'] (.ListComp elt [⟨tg, iter, ifs, 0⟩] c pos) spos) (tAsg (tComp (N'.length - N.length) wi g tc te) (gName i)) := by
  intro pins s σ H D I h
  rw [exec_Assign_Name_used _ _ _ _ hsw]
  refine wpAny_bind (wpAny_standAt (wpAny_bind ?_))
  show wpAny _ X.A (do let _ ← comprehension (.ListComp elt [⟨tg, iter, ifs, 0⟩] c pos) c X.env _ (newList []) false (eval iter X.env) (some (assign (.Name x pos') X.env))) _ _ s
  refine wpAny_bind (thn (comp_run (QQ := fun _ s' => SP X pins D .next s') (use := some (assign (.Name x pos') X.env)) S hN ho hc hi hg ht he hs I h ?_) fun _ s' hq => wpAny_pure (wpAny_pure hq))
  intro L C s5 H5 m I5 hCn hn n1 n2 n3 n4 q
  show wpAny _ X.A (assign (.Name x pos') X.env (.ref L)) _ _ _
  refine wpAny_assign_Name (store_ok2 (v := .ref L) I5 hnd hx hl rfl (fun s6 I6 ⟨a, hsb, ha⟩ => ?_) hf)
  have nCa : C ≠ a := by
    rcases ha with z | z
    · rw [z]; exact n1
    · exact (n3 x a z).symm
  exact ⟨m, hn.sameBut hsb nCa, fun h' hsb' => ⟨_, H5, I6.let hCn n1 n2 n3 n4 hsb', q⟩⟩
end
end L2

set_option Elab.async false
set_option linter.all false
set_option maxRecDepth 100000
namespace L2
open PySem PySem.Spec PyProof.Rows

theorem strsAre_of {ys : List Str} : ∀ {us : List Value}, Vals (ys.map V.str) us → StrsAre us ys := by
  induction ys with
  | nil => intro us r; rw [List.map_nil] at r; cases r; exact .nil
  | cons y ys ih =>
    intro us r
    rw [List.map_cons] at r
    cases r with
    | cons r1 r2 =>
      obtain ⟨t, e⟩ := r1
      subst e
      exact .cons _ _ (ih r2)
theorem vals_strs : ∀ {vs : List Value} {ys : List Str}, StrsAre vs ys → Vals (ys.map V.str) vs
  | _, _, .nil => .nil
  | _, _, .cons _ t h => .cons ⟨t, rfl⟩ (vals_strs h)

section
variable {X : Cx}
/-! ### isinstance -/
def rIsi (K : PySem.W.Frag) : List V → Hp → VK → Prop := fun xs H Q => ∃ x c t b, xs = [x, .ty c] ∧ TyOf K H x t ∧ PySem.W.kitOne K t (.type c) = some b ∧ Q (.bl b) H
theorem call_isi : CallR X (.builtin "isinstance") (rIsi X.K) := by
  intro pins s σ H xs us Q I r h
  obtain ⟨x, c, t, b, rfl, ty, e, q⟩ := h
  obtain ⟨u, w', rfl, rx, rc⟩ := vals2 r
  cases rc
  exact isinst_ok I rx ty e fun tk => ⟨.bl b, H, I.tok _, rfl, q⟩
def rIsiT (K : PySem.W.Frag) : List V → Hp → VK → Prop := fun xs H Q => ∃ (x : V) (tp : Addr) (cs : List String) (t : Value) (b : Bool), xs = [x, .ref tp] ∧ H tp = some (.tup (cs.map V.ty)) ∧ TyOf K H x t ∧ PySem.W.kitAny K t (cs.map Value.type) = some b ∧ Q (.bl b) H
/-! ### all, sorted -/
theorem call_all (hc : X.calm = true) : CallR X (.builtin "all") (fun xs H Q => ∃ (p : Addr) (bs : List Bool), xs = [.ref p] ∧ SqL X.K H p (bs.map V.bl) ∧ Q (.bl (bs.all id)) H) := by
  intro pins s σ H xs us Q I r h
  obtain ⟨p, bs, rfl, hq, q⟩ := h
  obtain ⟨u, rfl, rx⟩ := vals1 r
  cases rx
  obtain ⟨its, rv, pl, hz⟩ := I.list hq
  have hl := pl.isList
  have hlt : p < s.heap.objs.size := by obtain ⟨_, e, _⟩ := hl; exact Heap.lt_size e
  refine call_all_walk (wpAny_pyIter_list hl ?_)
  refine ⟨s.heap.objs.size, [s.heap.objs.size, p], [s.heap.objs.size], its.toArray.size, _, _, fun i => (bs[i]?).getD true, rfl, Walks.list (A := X.A.in1) (I.ok.hd hc) _ p (Nat.ne_of_lt hlt) its.toArray,
    ⟨⟨_, Heap.get?_push_size _ rfl, rfl, rfl⟩, hl.push _⟩, fun i v s' Q' E' hP hQ => ?_, fun h' tk hk => ?_⟩
  · have hP' : its[i]? = some v := by simpa using hP
    have hi : i < its.length := (List.getElem?_eq_some_iff.mp hP').1
    have hlen := rv.length
    have hb : (bs.map V.bl)[i]? = some (V.bl (bs[i]'(by rw [List.length_map] at hlen; omega))) := by
      rw [List.getElem?_map, List.getElem?_eq_getElem (by rw [List.length_map] at hlen; omega)]; rfl
    obtain ⟨u', hu', ru'⟩ := rv.get hb
    rw [hP'] at hu'; cases hu'
    obtain rfl : v = Value.bool _ := ru'
    have hQ2 : Q' ((bs[i]?).getD true) s' := hQ
    rw [List.getElem?_eq_getElem (by rw [List.length_map] at hlen; omega)] at hQ2
    exact wpAny_truthy_bool hQ2
  · have e : ((List.range its.toArray.size).all fun i => (bs[i]?).getD true) = bs.all id := by
      have hlen := rv.length
      rw [List.length_map] at hlen
      rw [List.size_toArray, ← hlen, Bool.eq_iff_iff, List.all_eq_true, List.all_eq_true]
      constructor
      · intro z b hb
        obtain ⟨i, hi, rfl⟩ := List.mem_iff_getElem.mp hb
        have := z i (List.mem_range.mpr hi)
        rw [List.getElem?_eq_getElem hi] at this
        exact this
      · intro z i hi
        have hi' := List.mem_range.mp hi
        rw [List.getElem?_eq_getElem hi']
        exact z _ (List.getElem_mem hi')
    refine ⟨.bl (bs.all id), H, I.kept fun b ob e' => hk b ob (fun hm => ?_) (Heap.get?_push_of_some _ e'), by rw [e]; rfl, q⟩
    rw [List.mem_singleton.mp hm] at e'
    exact Nat.lt_irrefl _ (Heap.lt_size e')
theorem call_sortedS : CallR X (.builtin "sorted") (fun xs H Q => ∃ (p : Addr) (ss : List Str), xs = [.ref p] ∧ SqL X.K H p (ss.map V.str) ∧ ss.length < 64 ∧
    ∀ (l : Addr) (ss' : List Str), H l = none → ss'.Perm ss → sortedS ss' = true → Q (.ref l) (upd H l (.lst (ss'.map V.str)))) := by
  intro pins s σ H xs us Q I r h
  obtain ⟨p, ss, rfl, hq, h64, q⟩ := h
  obtain ⟨u, rfl, rx⟩ := vals1 r
  cases rx
  obtain ⟨its, rv, pl, hz⟩ := I.list hq
  have hlen := rv.length
  rw [List.length_map] at hlen hz
  refine sorted_strs pl.isList (strsAre_of rv) (by omega) fun out ss' a1 a2 a3 => ?_
  obtain ⟨e, he⟩ := sortedAll_at s.heap its out
  have hp := a2.length_eq
  refine ⟨.ref (s.heap.objs.size + 1), _, I.laid (t' := s.toks) (o := .lst (ss'.map V.str)) (fun _ _ => sortedAll_old) (Nat.le_succ _) ⟨by rw [List.length_map]; omega, out.toList, e, vals_strs a1, by simpa using he⟩, rfl, q _ ss' (I.hok.fresh (Nat.le_succ _)) a2 a3⟩

/-! ### texts -/
theorem mt_join : MtR X "str.join" (fun x vs H Q => ∃ (sep : Str) (p : Addr) (ys : List Str), x = .str sep ∧ vs = [.ref p] ∧ SqL X.K H p (ys.map V.str) ∧ (ys.map (·.length)).sum + ys.length * sep.length ≤ 16777216 ∧ Q (.str (Txt.join sep ys)) H) := by
  intro pins s σ H x vs v us Q I rx rv h
  obtain ⟨sep, p, ys, rfl, rfl, hq, hz, q⟩ := h
  obtain ⟨t, rfl⟩ := rx
  obtain ⟨u, rfl, ru⟩ := rv.one
  cases ru
  obtain ⟨its, r', pl, _⟩ := I.list hq
  exact join_list pl.isList (strsAre_of r') hz fun t' k => ⟨.str _, H, I.tok _, ⟨_, rfl⟩, q⟩
theorem op_mulS : OpR X (binaryOp .Mult) (fun x y H Q => ∃ a n, x = .str a ∧ y = .int n ∧ 0 ≤ n ∧ n ≤ 1000000 ∧ (a.length : Int) * n ≤ 1000000 ∧ Q (.str (Txt.mul a n)) H) := by
  intro pins s σ H x y v u Q I rx ry h
  obtain ⟨a, n, rfl, rfl, h0, h1, h2, q⟩ := h
  obtain ⟨t, rfl⟩ := rx
  obtain ⟨t', rfl⟩ := ry
  have h2' : a.length * n.toNat ≤ 1000000 := by
    have e : ((a.length * n.toNat : Nat) : Int) = (a.length : Int) * n := by rw [Int.natCast_mul, Int.toNat_of_nonneg h0]
    omega
  refine PySem.P.mul_str ?_ (fun c1 c2 => ?_) (fun c1 c2 => ?_) ?_
  · have e1 : decide (n < -(2 ^ 63 : Int)) = false := decide_eq_false (by omega)
    have e2 : decide (n ≥ 2 ^ 63) = false := decide_eq_false (by omega)
    rw [e1, e2]; rfl
  · have hn : (1 : Int) ≤ n := by omega
    have q1 : (a.length : Int) * 1 ≤ (a.length : Int) * n := Int.mul_le_mul_of_nonneg_left hn (Int.natCast_nonneg _)
    have q2 : (1000000 : Int) ≤ (2 ^ 63 - 1) / n := by
      rw [Int.le_ediv_iff_mul_le (by omega)]
      have : (1000000 : Int) * n ≤ 1000000 * 1000000 := Int.mul_le_mul_of_nonneg_left h1 (by decide)
      omega
    omega
  · unfold Builtin.Str.tooLong
    have hl : sizeLine = 16777216 := sizeLine_eq
    exact decide_eq_false (by omega)
  · have e : Txt.mul a n = if n < 1 then Str.empty else if (n == 1 || a.length == 0) = true then a else ⟨(List.replicate n.toNat a.cps).foldl (· ++ ·) #[]⟩ := rfl
    rw [e] at q
    by_cases c1 : n < 1
    · rw [if_pos c1] at q ⊢
      exact ⟨by decide, .str _, H, I.tok _, ⟨_, rfl⟩, q⟩
    · rw [if_neg c1] at q ⊢
      by_cases c2 : (n == 1 || a.length == 0) = true
      · rw [if_pos c2] at q ⊢
        exact ⟨.str _, H, I, ⟨_, rfl⟩, q⟩
      · rw [if_neg c2] at q ⊢
        refine ⟨?_, .str _, H, I.tok _, ⟨_, rfl⟩, q⟩
        have hfold : ∀ (k : Nat) (acc : Array Nat), ((List.replicate k a.cps).foldl (· ++ ·) acc).size = acc.size + k * a.cps.size := by
          intro k
          induction k with
          | zero => intro acc; simp
          | succ k ih => intro acc; rw [List.replicate_succ, List.foldl_cons, ih, Array.size_append, Nat.succ_mul]; omega
        show ((List.replicate n.toNat a.cps).foldl (· ++ ·) #[]).size ≤ sizeLine
        rw [hfold]
        have e2 : a.cps.size = a.length := rfl
        have : n.toNat * a.cps.size ≤ 1000000 := by rw [e2, Nat.mul_comm]; exact h2'
        have hl : sizeLine = 16777216 := sizeLine_eq
        simp only [List.size_toArray, List.length_nil]
        omega
def rSlS : V → Option Int → Option Int → Hp → VK → Prop := fun x lo hi H Q => ∃ z, x = .str z ∧ z.length ≤ sizeLine ∧ Q (.str (Txt.slice z lo hi)) H
end
end L2

set_option Elab.async false
set_option linter.all false
set_option maxRecDepth 100000
/-! MY LAYER, 4: zip of two things, each a list, a tuple or a text -/
namespace L2
open PySem PySem.Spec PyProof.Rows

inductive Src where
  | l (a : Addr) | t (a : Addr) | s (z : Str)
def Src.val : Src → V
  | .l a => .ref a
  | .t a => .ref a
  | .s z => .str z
def oneSign (c : Nat) : V := .str ⟨#[c]⟩
def Src.its (K : PySem.W.Frag) (H : Hp) : Src → List V → Prop
  | .l a, xs => SqL K H a xs
  | .t a, xs => SqT K H a xs
  | .s z, xs => xs = z.cps.toList.map oneSign
/-- an iterator over it, k taken -/
def Src.at (h : Heap) (i : Addr) : Src → Nat → Prop
  | .l a, k => h.IsListIter i a k
  | .t a, k => h.IsTupleIter i a k
  | .s z, k => ∃ tk, h.IsStrIter i (strIterType z) z tk k
/-- the items in the heap -/
def Src.raw (h : Heap) : Src → List Value → Prop
  | .l a, us => h.IsList a us.toArray
  | .t a, us => h.IsTuple a us.toArray
  | .s _, _ => True
/-- the k-th item -/
def Src.fit : Src → List Value → Nat → Value → Prop
  | .l _, us, k, u => us[k]? = some u
  | .t _, us, k, u => us[k]? = some u
  | .s z, _, k, u => ∃ c tk, z.cps[k]? = some c ∧ u = .str ⟨#[c]⟩ tk
def Src.many : Src → List Value → Nat
  | .l _, us => us.length
  | .t _, us => us.length
  | .s z, _ => z.cps.size
/-- it does not stand at b -/
def Src.off : Src → Addr → Prop
  | .l a, b => a ≠ b
  | .t a, b => a ≠ b
  | .s _, _ => True
section
variable {prog : Program} {w : World} {A : Around} {E : Value → Shared → Prop} {s : Shared}
structure ZipOff (z TI TO i1 i2 : Addr) (S1 S2 : Src) : Prop where
  TIz : TI ≠ z
  TOz : TO ≠ z
  i1z : i1 ≠ z
  i2z : i2 ≠ z
  TITO : TI ≠ TO
  TIi1 : TI ≠ i1
  TIi2 : TI ≠ i2
  TOi1 : TO ≠ i1
  TOi2 : TO ≠ i2
  i12 : i1 ≠ i2
  s1z : S1.off z
  s1TO : S1.off TO
  s1i1 : S1.off i1
  s1i2 : S1.off i2
  s2z : S2.off z
  s2TO : S2.off TO
  s2i1 : S2.off i1
  s2i2 : S2.off i2

end
end L2

set_option Elab.async false
set_option linter.all false
set_option maxRecDepth 100000
namespace L2
open PySem PySem.Spec PyProof.Rows

/-- the iterator object that a thing gives -/
def Src.iter (tk : Tok) : Src → Obj
  | .l a => { cls := .type "list_iterator", data := .fields #[.ref a, .int 0 0] }
  | .t a => { cls := .type "tuple_iterator", data := .fields #[.ref a, .int 0 0] }
  | .s z => { cls := .type (strIterType z), data := .fields #[.str z tk, .int 0 0] }
def Src.value (tk : Tok) : Src → Value
  | .l a => .ref a
  | .t a => .ref a
  | .s z => .str z tk
abbrev zH1 (h : Heap) (S1 : Src) (t1 : Tok) : Heap := h.push (S1.iter t1)
abbrev zH2 (h : Heap) (S1 S2 : Src) (t1 t2 : Tok) : Heap := (zH1 h S1 t1).push (S2.iter t2)
abbrev zH3 (h : Heap) (S1 S2 : Src) (t1 t2 : Tok) : Heap := (zH2 h S1 S2 t1 t2).push { cls := .type "tuple", data := .seq #[.ref h.objs.size, .ref (zH1 h S1 t1).objs.size] }
abbrev zH4 (h : Heap) (S1 S2 : Src) (t1 t2 : Tok) : Heap := (zH3 h S1 S2 t1 t2).push { cls := .type "tuple", data := .seq #[.none, .none] }
abbrev zH5 (h : Heap) (S1 S2 : Src) (t1 t2 : Tok) : Heap := (zH4 h S1 S2 t1 t2).push { cls := .type "zip", data := .fields #[.none, .bool false, .bool false, .ref (zH2 h S1 S2 t1 t2).objs.size, .ref (zH3 h S1 S2 t1 t2).objs.size] }

section
variable {prog : Program} {w : World} {A : Around} {E : Value → Shared → Prop} {s : Shared}
end

/-- zip's turns: a new pair each -/
def Itz (K : PySem.W.Frag) (S1 S2 : Src) : It :=
  ⟨fun i H => ∃ xs ys, S1.its K H xs ∧ S2.its K H ys ∧ i < xs.length ∧ i < ys.length,
   fun i H v H' => ∃ p, H p = none ∧ v = .ref p ∧ ∀ xs ys, S1.its K H xs → S2.its K H ys → ∀ x y, xs[i]? = some x → ys[i]? = some y → H' = upd H p (.tup [x, y]),
   fun i H => ∃ xs ys, S1.its K H xs ∧ S2.its K H ys ∧ (xs.length ≤ i ∨ ys.length ≤ i)⟩

section
variable {X : Cx} {pins : List (Addr × Obj)} {σ : St} {H : Hp} {s : Shared}
/-- records of ours have turned, a new pair has been laid -/
theorem Inv.zipped {fp : List Addr} {h' : Heap} {tk : Nat} {x y : V} {u v : Value} (I : Inv X pins σ H s) (hf : ∀ b ∈ fp, FpOk X pins H b) (rx : RelV x u) (ry : RelV y v)
    (hp : IsPair h' s.heap.objs.size u v) (hfh : ∀ b ∈ fp, ∃ o, h'.get? b = some o) (hk : ∀ c o, c ∉ fp → s.heap.get? c = some o → h'.get? c = some o) :
    Inv X pins σ (upd H s.heap.objs.size (.tup [x, y])) { s with heap := h', toks := tk } := by
  have hn : H s.heap.objs.size = none := I.fresh
  have ne : ∀ b ob, s.heap.get? b = some ob → b ≠ s.heap.objs.size := fun b ob e => Nat.ne_of_lt (Heap.lt_size e)
  have nt : ∀ b u, H b = some u → b ≠ s.heap.objs.size := fun b u e => ne_of_none e hn
  have nfp : ∀ b u, H b = some u → b ∉ fp := fun b u e hb => by rw [(hf b hb).1] at e; cases e
  refine I.step (g' := s.gens) (d' := s.drawn) (ch := fp) (fun b hb => ⟨(hf b hb).2.2.2.1, (hf b hb).2.1, (hf b hb).2.2.2.2.1, (hf b hb).2.2.2.2.2⟩)
    (fun b ob _ _ hc e _ => hk b ob hc e) (fun b ob _ _ hc e _ => ⟨ob.slots, hk b ob hc e⟩) (fun b ob _ e n => by rw [upd_ne (ne b ob e)]; exact n) (fun b ob hc e => ⟨ob, hk b ob hc e⟩)
    (fun b xs e => by rw [upd_ne (nt b _ e)]; exact e) (fun b ob u e => by rw [upd_ne (nt b _ e)]; exact e) (fun b ps e => ⟨#[], by rw [upd_ne (nt b _ e), e]; simp⟩) (fun m hm => ?_) (fun b ub e => ?_) I.bare
  · obtain ⟨ob, es, ep, ho, r⟩ := hm
    exact ⟨ob, es, ep, hk _ ob (fun z => (hf _ z).2.1 rfl) ho, r⟩
  · by_cases hb : b = s.heap.objs.size
    · subst hb
      rw [upd_same] at e; cases e
      exact ⟨by show 2 ≤ sizeLine; decide, [u, v], .cons rx (.cons ry .nil), ⟨_, hp, rfl, _, rfl⟩⟩
    · rw [upd_ne hb] at e
      refine (I.hok b ub e).stay (fun c w' hc q => hk c w' ?_ q) (fun c q => by rw [upd_ne (nt c _ q)]; exact q) fun c xs q => by rw [upd_ne (nt c _ q)]; exact q
      rcases hc with z | z
      · rw [z]; exact nfp b ub e
      · exact nfp c _ z
end

def iZip (K : PySem.W.Frag) (ta : TA) : TI := fun σ H R => ta σ H fun vs H1 => ∃ S1 S2 xs ys, vs = [Src.val S1, Src.val S2] ∧ S1.its K H1 xs ∧ S2.its K H1 ys ∧ R (Itz K S1 S2) H1
end L2

set_option Elab.async false
set_option linter.all false
set_option maxRecDepth 100000
/-! MY LAYER, 6: the same rules with K written, defs of the text in one word, and the forms of comprehensions that are used -/
namespace L2
open PySem PySem.Spec PyProof.Rows
section
variable {X : Cx} (K : PySem.W.Frag)
theorem ixL (h : X.K = K := by rfl) : IxR X (rIxL K) := by subst h; exact ix_list
theorem slL (h : X.K = K := by rfl) : SlR X (rSlL K) := by subst h; exact sl_list
def rLenQ : List V → Hp → VK → Prop := fun xs H Q => ∃ p ys, xs = [.ref p] ∧ (SqL K H p ys ∨ SqT K H p ys) ∧ Q (.int ys.length) H
theorem lenQ (h : X.K = K := by rfl) : CallR X (.builtin "len") (rLenQ K) := by subst h; exact call_len_seq
theorem isiQ (h : X.K = K := by rfl) : CallR X (.builtin "isinstance") (rIsi K) := by subst h; exact call_isi
def rAllQ : List V → Hp → VK → Prop := fun xs H Q => ∃ (p : Addr) (bs : List Bool), xs = [.ref p] ∧ SqL K H p (bs.map V.bl) ∧ Q (.bl (bs.all id)) H
theorem allQ (hc : X.calm = true := by rfl) (h : X.K = K := by rfl) : CallR X (.builtin "all") (rAllQ K) := by subst h; exact call_all hc
def rSrtI : List V → Hp → VK → Prop := fun xs H Q => ∃ (p : Addr) (ns : List Int), xs = [.ref p] ∧ SqL K H p (ns.map V.int) ∧ ns.length < 64 ∧
    ∀ (l : Addr) (ns' : List Int), H l = none → ns'.Perm ns → ns'.Pairwise (· ≤ ·) → Q (.ref l) (upd H l (.lst (ns'.map V.int)))
def rSrtS : List V → Hp → VK → Prop := fun xs H Q => ∃ (p : Addr) (ss : List Str), xs = [.ref p] ∧ SqL K H p (ss.map V.str) ∧ ss.length < 64 ∧
    ∀ (l : Addr) (ss' : List Str), H l = none → ss'.Perm ss → sortedS ss' = true → Q (.ref l) (upd H l (.lst (ss'.map V.str)))
theorem srtS (h : X.K = K := by rfl) : CallR X (.builtin "sorted") (rSrtS K) := by subst h; exact call_sortedS
def rJoin : V → List V → Hp → VK → Prop := fun x vs H Q => ∃ (sep : Str) (p : Addr) (ys : List Str), x = .str sep ∧ vs = [.ref p] ∧ SqL K H p (ys.map V.str) ∧ (ys.map (·.length)).sum + ys.length * sep.length ≤ 16777216 ∧ Q (.str (Txt.join sep ys)) H
theorem joinQ (h : X.K = K := by rfl) : MtR X "str.join" (rJoin K) := by subst h; exact mt_join
theorem iL {tg l : Expr} {tl : TE} (hl : PE X l tl) (h : X.K = K := by rfl) : PI X tg l (iList K tl) := by subst h; exact pi_list hl
theorem gT {es : List Expr} {k : Nat} {t : TGs} {n : Nat} {pos : Pos} (h : PGs X es t) (hK : X.K = K := by rfl) (hc : X.calm = true := by rfl)
    (hn : (assignEach es X.env).length = n := by rfl) (hst : (assignEach es X.env).findIdx? (·.1) = none := by rfl) : PG X (.Tuple es k pos) (gTup K n t) := by subst hK; exact pg_tup hc h hn hst
end

/-- a def of the text, with its promise -/
structure Df (P : Program) (w : World) (K : PySem.W.Frag) (mg : Str → Option Value) (base : Heap) (k : Nat) (x : Str) (ps : List Str) (sp : Sp) : Prop where
  ex : ∃ f fd, FnOk P w K mg base CX0 k f fd ps sp ∧ mg x = some (.ref f) ∧ PySem.W.keepIn K (.ref f) = true ∧ Binds K fd ps []
section
variable {P : Program} {w : World} {K : PySem.W.Frag} {mg : Str → Option Value} {base : Heap}
/-- what the top has made of a def -/
structure Top (K : PySem.W.Frag) (mg : Str → Option Value) (x : Str) (st : Stmt) (ps : List Str) : Prop where
  ex : ∃ f fd, Fun K x x st f fd ∧ mg x = some (.ref f) ∧ Binds K fd ps []
theorem Top.df {x : Str} {st : Stmt} {N ps : List Str} {k : Nat} {sp : Sp} (T : Top K mg x st ps) (S : FnScope N ps (defScope st)) (len : ∀ vs H Q E, sp vs H Q E → vs.length = ps.length)
    (hbody : ∀ (cdv : Value) (f : Addr) (A : Around) (outer : List Env) (s : Shared) (H : Hp) (vs : List V) (Q : VK) (E : XK), Room k (A.deeper (envOfC x (defScope st) s.heap.objs.size f cdv)) → sp vs H Q E →
      ∃ t, PSs (cxOf CX0 P w K mg base N x (defScope st) f cdv A outer s H E).nox (defBody st) t ∧ t { nx := fun _ H' => Q .non H', rt := Q } (start N vs) H) : Df P w K mg base (k + 1) x ps sp := by
  obtain ⟨f, fd, F, m, b⟩ := T.ex
  exact ⟨f, fd, F.ok S len (fun cdv A outer s H vs Q E hr h => hbody cdv f A outer s H vs Q E hr h), m, F.kp, b⟩
end
section
variable {X : Cx} {k j : Nat} {x : Str} {ps : List Str} {sp : Sp} {e : Expr} {es : List Expr} {t : TA} {p pos : Pos}
theorem pe_df (F : Df X.prog X.w X.K X.mg X.base k x ps sp) (hr : Room j X.A) (ha : PA X (e :: es) t) (hjk : k ≤ j := by decide) (hg : Gl X x := by rfl) (hdb : (x == ("__debug__" : Str)) = false := by decide)
    (he : starEach (e :: es) X.env = (false, eval e X.env) :: starEach es X.env := by rfl) (hpl : (backTo pos (starEach es X.env)).any (·.1) = false := by rfl) :
    PE X (.Call (.Name x p) (e :: es) [] pos) (tCall sp [] E0 t) := by
  obtain ⟨f, fd, F, m, kp, b⟩ := F.ex
  exact pe_call F (hr.mono hjk) hg m kp b .nil pass0 ha hdb he hpl
/-- a built-in type's name as a value -/
theorem pe_ty {T : String} (hm : X.mg x = none) (hv : bootBuiltins x = some (.type T)) (hg : Gl X x := by rfl) (hn : x ≠ "__name__" := by decide) (hd : (x == ("__debug__" : Str)) = false := by decide) : PE X (.Name x pos) (tC (.ty T)) :=
  pe_bltn hg hm hv rfl hn hd
end

/-! ### comprehensions, the forms -/
theorem comp_range {lo : Int} {n k : Nat} {D : Addr} {σ : St} {H1 : Hp} {g : TG} {te : TE} {Q : VK} (Pv : Nat → List V → St → Hp → Prop) (h0 : Pv 0 [] (σ ++ List.replicate k none) (upd H1 D (.lst [])))
    (hs : ∀ i ys σ H, i < n → Pv i ys σ H → g (.int (lo + i)) σ H fun σ4 H4 => te σ4 H4 fun y H6 => H6 D = some (.lst ys) ∧ ys.length < sizeLine ∧ Pv (i + 1) (ys ++ [y]) σ4 (upd H6 D (.lst (ys ++ [y]))))
    (hd : ∀ ys σ H, Pv n ys σ H → Q (.ref D) H) : CompGo (Itr lo n) D k σ H1 g tYes te Q := by
  refine ⟨fun i m ys σ H => m = n - i ∧ i ≤ n ∧ Pv i ys σ H, ⟨n, by simp, Nat.zero_le _, h0⟩, ?_⟩
  rintro i m ys σ H ⟨rfl, hi, p⟩
  by_cases hlt : i < n
  · refine .inr ⟨hlt, Pv (i + 1), fun ys' σ' H' p' => ⟨n - (i + 1), by omega, rfl, hlt, p'⟩, fun x H' y => ?_⟩
    obtain ⟨e, y⟩ := y
    subst e y
    simp only [tYes, ↓reduceIte]
    exact hs i ys σ _ hlt p
  · have e : i = n := by omega
    subst e
    exact .inl ⟨Nat.le_refl _, hd ys σ H p⟩
end L2

set_option Elab.async false
set_option linter.all false
set_option maxRecDepth 100000
/-! MY LAYER, 7: names within a block, by closed facts -/
namespace L2
open PySem PySem.Spec PyProof.Rows
section
variable {X : Cx} {N N' : List Str} {o c : Scope} {x : Str} {pos : Pos} {C : Addr} {s : Shared} {H : Hp} {fp : List Addr}
theorem comp_local (S : CompSc N N' o c) (ho : X.env.scope = o) (hl : c.names.lookup x = some .local) : (compCx X c N' C s H fp).env.scope.names.lookup x = some .local := by
  have e := comp_kind (X := X) S ho (clOf X.env.cells c.names []) C x
  rw [hl] at e
  exact e
theorem comp_glob (S : CompSc N N' o c) (ho : X.env.scope = o) (hl : c.names.lookup x = some .globalImplicit) : Gl (compCx X c N' C s H fp) x := by
  have e := comp_kind (X := X) S ho (clOf X.env.cells c.names []) C x
  rw [hl] at e
  exact e
theorem comp_vis (S : CompSc N N' o c) (ho : X.env.scope = o) (hl : c.names.lookup x = some .free) : Vis (compCx X c N' C s H fp).env.scope x := by
  have e := comp_kind (X := X) S ho (clOf X.env.cells c.names []) C x
  rw [hl] at e
  have e' : (compCx X c N' C s H fp).env.scope.names.lookup x = if X.env.kindOf x = some .cell then some NameKind.cell else some NameKind.free := e
  by_cases z : X.env.kindOf x = some .cell
  · rw [if_pos z] at e'; exact .inr (.inl e')
  · rw [if_neg z] at e'; exact .inr (.inr e')
/-- a captured name -/
theorem cv (i : Nat) (S : CompSc N N' o c) (ho : X.env.scope = o) (hl : c.names.lookup x = some .free) (hN : N'[i]? = some x := by rfl) (hd : (x == ("__debug__" : Str)) = false := by decide) (hcd : (x == ("__classdict__" : Str)) = false := by decide) :
    PE (compCx X c N' C s H fp) (.Name x pos) (tVar i) := pe_var hN (comp_vis S ho hl) hd hcd
/-- the block's own name -/
theorem cw (i : Nat) (S : CompSc N N' o c) (ho : X.env.scope = o) (hl : c.names.lookup x = some .local) (hN : N'[i]? = some x := by rfl) (hd : (x == ("__debug__" : Str)) = false := by decide) (hcd : (x == ("__classdict__" : Str)) = false := by decide) :
    PE (compCx X c N' C s H fp) (.Name x pos) (tVar i) := pe_var hN (.inl (comp_local S ho hl)) hd hcd
theorem cg (i : Nat) (S : CompSc N N' o c) (ho : X.env.scope = o) (hl : c.names.lookup x = some .local) (hi : N'[i]? = some x := by rfl) : PG (compCx X c N' C s H fp) (.Name x pos) (gName i) :=
  pg_name S.nd hi (.inl (comp_local S ho hl)) (.inr (comp_local S ho hl))
end
end L2

set_option Elab.async false
set_option linter.all false
set_option maxRecDepth 100000
/-! MY LAYER, 8: data (lists and tuples of any depth) and ==, != of them -/
namespace L2
open PySem PySem.Spec PyProof.Rows
mutual
inductive DV (K : PySem.W.Frag) (H : Hp) : V → PyData → Prop where
  | non : DV K H .non .none
  | bl (b : Bool) : DV K H (.bl b) (.bool b)
  | int (i : Int) : DV K H (.int i) (.int i)
  | str (s : Str) : DV K H (.str s) (.str s)
  | lst {a : Addr} {xs : List V} {ds : List PyData} : SqL K H a xs → DVs K H xs ds → DV K H (.ref a) (.list ds)
  | tup {a : Addr} {xs : List V} {ds : List PyData} : SqT K H a xs → DVs K H xs ds → DV K H (.ref a) (.tuple ds)
inductive DVs (K : PySem.W.Frag) (H : Hp) : List V → List PyData → Prop where
  | nil : DVs K H [] []
  | cons {x : V} {d : PyData} {xs : List V} {ds : List PyData} : DV K H x d → DVs K H xs ds → DVs K H (x :: xs) (d :: ds)
end
section
variable {X : Cx} {pins : List (Addr × Obj)} {σ : St} {H : Hp} {s : Shared}
mutual
theorem Inv.reads (I : Inv X pins σ H s) : ∀ {x : V} {d : PyData} {u : Value}, DV X.K H x d → RelV x u → ∃ as, Reads s.heap u d as
  | _, _, _, .non, r => by cases r; exact ⟨_, .none⟩
  | _, _, _, .bl b, r => by cases r; exact ⟨_, .bool b⟩
  | _, _, _, .int i, r => by obtain ⟨t, rfl⟩ := r; exact ⟨_, .int i t⟩
  | _, _, _, .str z, r => by obtain ⟨t, rfl⟩ := r; exact ⟨_, .str z t⟩
  | _, _, _, .lst h hs, r => by
    cases r
    obtain ⟨its, rv, ⟨o, n, e, hc, _, hd⟩, _⟩ := I.list h
    obtain ⟨as, q⟩ := Inv.readsAll I hs rv
    exact ⟨_, reads_list_at e hc hd (by simpa using q)⟩
  | _, _, _, .tup h hs, r => by
    cases r
    obtain ⟨its, rv, ⟨o, e, hc, n, hd⟩, _⟩ := I.tuple h
    obtain ⟨as, q⟩ := Inv.readsAll I hs rv
    exact ⟨_, reads_tuple_at e hc hd (by simpa using q)⟩
theorem Inv.readsAll (I : Inv X pins σ H s) : ∀ {xs : List V} {ds : List PyData} {us : List Value}, DVs X.K H xs ds → Vals xs us → ∃ as, ReadsAll s.heap us ds as
  | _, _, _, .nil, r => by cases r; exact ⟨_, .nil⟩
  | _, _, _, .cons h hs, r => by
    cases r with
    | cons r1 r2 =>
      obtain ⟨as, q1⟩ := Inv.reads I h r1
      obtain ⟨bs, q2⟩ := Inv.readsAll I hs r2
      exact ⟨_, .cons q1 q2⟩
end
/-- ==, != of data -/
def rEqD (K : PySem.W.Frag) (neg : Bool) : R2 := fun x y H Q => ∃ d e, DV K H x d ∧ DV K H y e ∧ SeqAt.shaped d = true ∧ SeqAt.shaped e = true ∧ Q (.bl (if neg then !PyData.eqv d e else PyData.eqv d e)) H
theorem op_eqD (hu : X.A.units + 64 < cLine) : OpR X (compareOp .Eq) (rEqD X.K false) := by
  intro pins s σ H x y v u Q I rx ry h
  obtain ⟨d, e, h1, h2, s1, s2, q⟩ := h
  obtain ⟨as, r1⟩ := I.reads h1 rx
  obtain ⟨bs, r2⟩ := I.reads h2 ry
  exact eq_dataH r1 r2 s1 s2 hu ⟨.bl _, H, I, rfl, q⟩
theorem op_neD (hu : X.A.units + 64 < cLine) : OpR X (compareOp .NotEq) (rEqD X.K true) := by
  intro pins s σ H x y v u Q I rx ry h
  obtain ⟨d, e, h1, h2, s1, s2, q⟩ := h
  obtain ⟨as, r1⟩ := I.reads h1 rx
  obtain ⟨bs, r2⟩ := I.reads h2 ry
  exact ne_dataH r1 r2 s1 s2 hu ⟨.bl _, H, I, rfl, q⟩
end
theorem eqD {X : Cx} (K : PySem.W.Frag) {k : Nat} (hr : Room k X.A) (h : X.K = K := by rfl) : OpR X (compareOp .Eq) (rEqD K false) := by subst h; exact op_eqD hr.units
theorem neD {X : Cx} (K : PySem.W.Frag) {k : Nat} (hr : Room k X.A) (h : X.K = K := by rfl) : OpR X (compareOp .NotEq) (rEqD K true) := by subst h; exact op_neD hr.units
mutual
theorem DV.mono {K : PySem.W.Frag} {H H' : Hp} (s : Same H H') : ∀ {x : V} {d : PyData}, DV K H x d → DV K H' x d
  | _, _, .non => .non
  | _, _, .bl b => .bl b
  | _, _, .int i => .int i
  | _, _, .str z => .str z
  | _, _, .lst h hs => .lst (s.seq h) (DVs.mono s hs)
  | _, _, .tup h hs => .tup (by
      rcases h with (h | ⟨ob, h⟩) | h
      · exact .inl (.inl (s _ _ h))
      · exact .inl (.inr ⟨ob, s _ _ h⟩)
      · exact .inr h) (DVs.mono s hs)
theorem DVs.mono {K : PySem.W.Frag} {H H' : Hp} (s : Same H H') : ∀ {xs : List V} {ds : List PyData}, DVs K H xs ds → DVs K H' xs ds
  | _, _, .nil => .nil
  | _, _, .cons h hs => .cons (DV.mono s h) (DVs.mono s hs)
end
end L2

set_option Elab.async false
set_option linter.all false
set_option maxRecDepth 100000
/-! MY LAYER, 9: enumerate of a list, a walk over a text's signs -/
namespace L2
open PySem PySem.Spec PyProof.Rows

/-- enumerate's turns over the list at a: a new pair (number, item) each -/
def Ite (K : PySem.W.Frag) (a : Addr) : It :=
  ⟨fun i H => ∃ xs, SqL K H a xs ∧ i < xs.length,
   fun i H v H' => ∃ p, H p = none ∧ v = .ref p ∧ ∀ xs, SqL K H a xs → ∀ x, xs[i]? = some x → H' = upd H p (.tup [.int i, x]),
   fun i H => ∃ xs, SqL K H a xs ∧ xs.length ≤ i⟩
theorem turn_enum {P : Program} {w : World} {K : PySem.W.Frag} {elts : List Expr} {x1 : Nat} {tpos : Pos} {a e it : Addr} (hne : e ≠ it) :
    Turn P w K (.Tuple elts x1 tpos) (Ite K a) [e, it] e (fun i h => (∃ old, IsEnum h e it i old) ∧ h.IsListIter it a i) where
  mem := by simp
  obj := fun i h st b hb => by
    obtain ⟨⟨old, he⟩, o, hit, hc, hd⟩ := st
    simp only [List.mem_cons, List.not_mem_nil, or_false] at hb
    rcases hb with rfl | rfl
    · exact ⟨_, he, fun v z => by cases z⟩
    · exact ⟨o, hit, fun v z => by rw [hd] at z; cases z⟩
  keep := fun i h h' st k => by
    obtain ⟨⟨old, he⟩, hit⟩ := st
    exact ⟨⟨old, k e (by simp) _ he⟩, hit.at fun o q => k it (by simp) o q⟩
  item := by
    intro X hP hw hK hc i pins s σ H E I hf st hg
    subst hP hw hK
    obtain ⟨⟨old, he⟩, hit⟩ := st
    obtain ⟨xs, q1, l1⟩ := hg
    obtain ⟨its, rv, pl, _⟩ := I.list q1
    obtain ⟨u, hu, ru⟩ := rv.get (List.getElem?_eq_getElem l1)
    refine wpAny_pyNext_enum_item he hit pl.isList (x := u) (by simpa using hu) hne fun h' a1 a2 a3 a4 a5 => ?_
    have lt : ∀ {b : Addr} {o : Obj}, s.heap.get? b = some o → s.heap.objs.size ≠ b := fun q => Nat.ne_of_gt (Heap.lt_size q)
    have hes : s.heap.objs.size ≠ e := lt he
    refine ⟨_, rfl, wpAny_letOwnedTupleGo_enum a1 fun h'' he'' hs'' => ?_⟩
    have hs' : Heap.SameBut e h' h'' := hs''
    have hit'' : h''.IsListIter it a (i + 1) := a2.extBut hs'.extBut hne.symm
    have I2 : Inv X pins σ (upd H s.heap.objs.size (.tup [.int i, xs[i]])) { s with heap := h'', toks := s.toks + 1 } := by
      refine I.zipped (fp := [e, it]) (u := .int i s.toks) (v := u) hf ⟨_, rfl⟩ ru (hs'.extBut _ _ hes a3) (fun b hb => ?_) fun c o hc q => ?_
      · simp only [List.mem_cons, List.not_mem_nil, or_false] at hb
        rcases hb with rfl | rfl
        · exact ⟨_, he''⟩
        · obtain ⟨o, q, _⟩ := hit''; exact ⟨o, q⟩
      · simp only [List.mem_cons, List.not_mem_nil, or_false, not_or] at hc
        exact hs'.extBut _ _ hc.1 (a5 c o hc.1 hc.2 q)
    refine ⟨.ref s.heap.objs.size, _, I2, rfl, ⟨s.heap.objs.size, I.fresh, rfl, fun xs' w1 x' e1 => ?_⟩, ⟨⟨_, he''⟩, hit''⟩, fun b hb => ?_⟩
    · have e3 := I.list_inj w1 q1
      subst e3
      rw [List.getElem?_eq_getElem l1] at e1
      cases e1
      rfl
    · rw [upd_ne (fun z => by
        obtain ⟨o, q⟩ : ∃ o, s.heap.get? b = some o := by
          simp only [List.mem_cons, List.not_mem_nil, or_false] at hb
          rcases hb with rfl | rfl
          · exact ⟨_, he⟩
          · obtain ⟨o, q, _⟩ := hit; exact ⟨o, q⟩
        exact lt q z.symm)]
      exact (hf b hb).1
  done := by
    intro X hP hw hK hc i pins s σ H E I hf st hg
    subst hP hw hK
    obtain ⟨⟨old, he⟩, hit⟩ := st
    obtain ⟨xs, q1, l1⟩ := hg
    obtain ⟨its, rv, pl, _⟩ := I.list q1
    obtain ⟨f0, f1, f2, f3, f4, f5⟩ := hf it (by simp)
    have hl := rv.length
    exact wpAny_pyNext_enum_end (I.ok.hd hc) he hit pl.isList (by rw [List.getElem?_toArray]; exact List.getElem?_eq_none (by omega)) fun h' eb => ⟨rfl, I.turned (t' := s.toks) (fun b o hb q => eb b o hb q) f0 f1 f3 f4 f5⟩
  self := fun _ _ _ _ _ st h => by obtain ⟨⟨old, he⟩, _⟩ := st; exact wpAny_pyIter_enum he h
def iEnum (K : PySem.W.Frag) (ta : TA) : TI := fun σ H R => ta σ H fun vs H1 => ∃ a xs, vs = [V.ref a] ∧ SqL K H1 a xs ∧ R (Ite K a) H1
theorem pi_enum {X : Cx} {l : Expr} {ta : TA} {p pos : Pos} {elts : List Expr} {x1 : Nat} {tpos : Pos} (hg : Gl X "enumerate") (hm : X.mg "enumerate" = none) (ha : PA X [l] ta)
    (hs : starEach [l] X.env = [(false, eval l X.env)] := by rfl) : PI X (.Tuple elts x1 tpos) (.Call (.Name "enumerate" p) [l] [] pos) (iEnum X.K ta) := by
  intro pins s σ H R I h
  refine Call_ (ld_blt I hg hm boot_enumerate (PyProof.Rows.callWith_type1 (thn (ha pos pins s σ H _ I h) fun us s1 ⟨vs, H1, I1, r1, q1⟩ => ?_) hs rfl))
  obtain ⟨a, xs, e, y1, q⟩ := q1
  subst e
  obtain ⟨u, rfl, ru⟩ := r1.one
  cases ru
  obtain ⟨its, rv, pl, _⟩ := I1.list y1
  refine call_enumerate_list pl.isList fun h' he hit hsz hk => wpAny_pyIter_enum he ?_
  have I2 : Inv X pins σ H1 { s1 with heap := h' } := I1.kept (t' := s1.toks) hk
  refine ⟨_, _, _, _, H1, rfl, I2, turn_enum (a := a) (e := s1.heap.objs.size + 1) (it := s1.heap.objs.size) (Nat.ne_of_gt (Nat.lt_succ_self _)), ⟨⟨_, he⟩, hit⟩, fun b hb => ?_, q⟩
  have hb' : s1.heap.objs.size ≤ b := by
    simp only [List.mem_cons, List.not_mem_nil, or_false] at hb
    rcases hb with rfl | rfl
    · exact Nat.le_add_right _ 1
    · exact Nat.le_refl _
  exact I1.fpOk hb' (I1.hok.fresh hb')
theorem iE {X : Cx} (K : PySem.W.Frag) {l : Expr} {ta : TA} {p pos : Pos} {elts : List Expr} {x1 : Nat} {tpos : Pos} (hm : X.mg "enumerate" = none) (ha : PA X [l] ta) (hg : Gl X "enumerate" := by rfl) (hK : X.K = K := by rfl)
    (hs : starEach [l] X.env = [(false, eval l X.env)] := by rfl) : PI X (.Tuple elts x1 tpos) (.Call (.Name "enumerate" p) [l] [] pos) (iEnum K ta) := by subst hK; exact pi_enum hg hm ha hs
/-- for over enumerate of a list that stays -/
theorem for_enum {K : PySem.W.Frag} {a : Addr} {xs : List V} {g : TG} {tb : TS} {D : Ends} {σ : St} {H : Hp} (Pv : Nat → St → Hp → Prop) (h0 : Pv 0 σ H) (hl : ∀ i σ H, Pv i σ H → SqL K H a xs)
    (hs : ∀ i x σ H p, xs[i]? = some x → Pv i σ H → H p = none → g (.ref p) σ (upd H p (.tup [.int i, x])) fun σ2 H2 => tb { D with nx := Pv (i + 1), ct := Pv (i + 1), bk := D.nx } σ2 H2) (hd : ∀ σ H, Pv xs.length σ H → D.nx σ H) :
    ∃ W : Nat → Nat → St → Hp → Prop, (∃ m, W 0 m σ H) ∧ ∀ i m σ H, W i m σ H →
      ((Ite K a).stop i H ∧ D.nx σ H) ∨ ((Ite K a).go i H ∧ ∃ N : St → Hp → Prop, (∀ σ' H', N σ' H' → ∃ m', m' < m ∧ W (i + 1) m' σ' H') ∧ ∀ x H', (Ite K a).yld i H x H' → g x σ H' fun σ2 H2 => tb { D with nx := N, ct := N, bk := D.nx } σ2 H2) := by
  refine ⟨fun i m σ H => m = xs.length - i ∧ i ≤ xs.length ∧ Pv i σ H, ⟨xs.length, by simp, Nat.zero_le _, h0⟩, ?_⟩
  rintro i m σ H ⟨rfl, hi, p⟩
  have q1 := hl i σ H p
  by_cases hlt : i < xs.length
  · refine .inr ⟨⟨xs, q1, hlt⟩, Pv (i + 1), fun σ' H' p' => ⟨xs.length - (i + 1), by omega, rfl, hlt, p'⟩, fun x H' y => ?_⟩
    obtain ⟨r, hr, rfl, e⟩ := y
    have e' := e xs q1 _ (List.getElem?_eq_getElem hlt)
    subst e'
    exact hs i _ σ H r (List.getElem?_eq_getElem hlt) p hr
  · have e : i = xs.length := by omega
    exact .inl ⟨⟨xs, q1, by omega⟩, hd σ H (e ▸ p)⟩
/-- min of a list of ints -/
def rMinL (K : PySem.W.Frag) : List V → Hp → VK → Prop := fun vs H Q => ∃ (p : Addr) (ns : List Int), vs = [.ref p] ∧ SqL K H p (ns.map V.int) ∧ 0 < ns.length ∧ ∀ M, M ∈ ns → (∀ a ∈ ns, M ≤ a) → Q (.int M) H
/-- list(xs): a new one -/
def rListQ (K : PySem.W.Frag) : List V → Hp → VK → Prop := fun xs H Q => ∃ p ys, xs = [.ref p] ∧ (SqL K H p ys ∨ SqT K H p ys) ∧ ∀ l, H l = none → Q (.ref l) (upd H l (.lst ys))
end L2

set_option Elab.async false
set_option linter.all false
set_option maxRecDepth 100000
/-! MY LAYER, 10: names given of a list, slices with a step, insert, bit_length, in, tuple(xs) -/
namespace L2
open PySem PySem.Spec PyProof.Rows
section
variable {prog : Program} {w : World} {A : Around} {E : Value → Shared → Prop} {s : Shared}
end
/-- (a, b, ..) = a list of that length -/
def gLst (K : PySem.W.Frag) (n : Nat) (t : TGs) : TG := fun v σ H Q => ∃ a xs, v = .ref a ∧ SqL K H a xs ∧ xs.length = n ∧ t xs σ H Q
/-! ### slices with a step -/
def pickV (xs : List V) (lo hi : Option Int) (st : Int) : List V :=
  (sliceRange (sliceBounds lo hi (some st) xs.length).1 (sliceBounds lo hi (some st) xs.length).2.1 (sliceBounds lo hi (some st) xs.length).2.2).filterMap fun i => xs[i]?
theorem vals_pick {xs : List V} {us : List Value} (r : Vals xs us) : ∀ is : List Nat, Vals (is.filterMap fun i => xs[i]?) (is.filterMap fun i => us[i]?)
  | [] => .nil
  | i :: is => by
    have ih := vals_pick r is
    by_cases hi : i < xs.length
    · have e1 : xs[i]? = some xs[i] := List.getElem?_eq_getElem hi
      obtain ⟨u, hu, ru⟩ := r.get e1
      rw [List.filterMap_cons, List.filterMap_cons, e1, hu]
      exact .cons ru ih
    · have e1 : xs[i]? = none := List.getElem?_eq_none (by omega)
      have e2 : us[i]? = none := List.getElem?_eq_none (by rw [← r.length]; omega)
      rw [List.filterMap_cons, List.filterMap_cons, e1, e2]
      exact ih
def SlRS (X : Cx) (r : V → Option Int → Option Int → Int → Hp → VK → Prop) : Prop :=
  ∀ (pins : List (Addr × Obj)) (s : Shared) (σ : St) (H : Hp) (x : V) (v vl vu vs : Value) (lo hi : Option Int) (st : Int) (sl : Addr) (Q : VK), Inv X pins σ H s → RelV x v → s.heap.IsSliceOf sl vl vu vs → IsPart vl lo → IsPart vu hi → IsPart vs (some st) → r x lo hi st H Q →
    ∃ T id, typeLookup (.type T) "__getitem__" = pure (some (.builtin id)) ∧ s.TypeIs v T ∧ wpAny (model X.prog X.w) X.A (getItem v (.ref sl)) (EP X pins σ Q) X.xe s
def tSlS (r : V → Option Int → Option Int → Int → Hp → VK → Prop) (te : TE) (tl th ts : TO) : TE := fun σ H Q => te σ H fun x H1 => tl σ H1 fun l H2 => th σ H2 fun u H3 => ts σ H3 fun k H4 => ∃ i, k = some i ∧ r x l u i H4 Q
section
variable {X : Cx} {e st : Expr} {te : TE} {lo hi : Option Expr} {tl th ts : TO} {pos p2 : Pos}
theorem pe_sliceS {r : V → Option Int → Option Int → Int → Hp → VK → Prop} (hr : SlRS X r) (he : PE X e te) (hl : PO X lo tl) (hu : PO X hi th) (hst : PO X (some st) ts) : PE X (.Subscript e (.Slice lo hi (some st) p2) pos) (tSlS r te tl th ts) := by
  intro pins s σ H Q I h
  refine Subscript_ (thn (he pins s σ H _ I h) fun v s1 ⟨x, H1, I1, r1, q1⟩ => ?_)
  refine wpAny_Slice (thn (hl pins s1 σ H1 _ I1 q1) fun vl s2 ⟨l, H2, I2, pl, q2⟩ => thn (hu pins s2 σ H2 _ I2 q2) fun vu s3 ⟨u, H3, I3, pu, q3⟩ => thn (hst pins s3 σ H3 _ I3 q3) fun vs s4 ⟨k, H4, I4, pk, q4⟩ => ?_)
  obtain ⟨i, rfl, q4⟩ := q4
  have I5 : Inv X pins σ H4 { s4 with heap := s4.heap.push { cls := .type "slice", data := .fields #[vl, vu, vs] } } := I4.kept (t' := s4.toks) fun b ob q => Heap.get?_push_of_some _ q
  obtain ⟨T, id, hT, ht, hg⟩ := hr pins { s4 with heap := s4.heap.push { cls := .type "slice", data := .fields #[vl, vu, vs] } } σ H4 x v vl vu vs l u i s4.heap.objs.size Q I5 r1 (Heap.IsSliceOf.new ..) pl pu pk q4
  show wpAny (model X.prog X.w) X.A (subscriptTail e (.Slice lo hi (some st) p2) v (.ref s4.heap.objs.size)) (EP X pins σ Q) X.xe { s4 with heap := s4.heap.push { cls := .type "slice", data := .fields #[vl, vu, vs] } }
  exact tail_any (ops := [v, .ref s4.heap.objs.size]) ht hT hg (by with_unfolding_all rfl)
def rSlLS (K : PySem.W.Frag) : V → Option Int → Option Int → Int → Hp → VK → Prop := fun x lo hi st H Q => ∃ a xs, x = .ref a ∧ SqL K H a xs ∧ st ≠ 0 ∧ ∀ p, H p = none → Q (.ref p) (upd H p (.lst (pickV xs lo hi st)))
theorem sl_listS : SlRS X (rSlLS X.K) := by
  intro pins s σ H x v vl vu vs lo hi st sl Q I rx hs pl pu pk h
  obtain ⟨a, xs, rfl, hx, hne, q⟩ := h
  cases rx
  obtain ⟨its, r, ht, hz⟩ := I.list hx
  have hlen := r.length
  refine ⟨"list", _, slot_list_getitem.lookup, ht.isList.typeIs, ?_⟩
  refine wpAny_getItem_list_slice ht.isList hs pl pu pk (by intro e; exact hne (Option.some.inj e)) ?_ (by rw [List.size_toArray] <;> omega)
  have hsz := slicePick_size_le its.toArray lo hi (some st)
  have hv : Vals (pickV xs lo hi st) (slicePick its.toArray lo hi (some st)).toList := by
    unfold slicePick pickV
    simp only [List.size_toArray, ← hlen]
    have := vals_pick r (sliceRange (sliceBounds lo hi (some st) xs.length).1 (sliceBounds lo hi (some st) xs.length).2.1 (sliceBounds lo hi (some st) xs.length).2.2)
    simpa using this
  refine ⟨.ref s.heap.objs.size, _, I.laid (t' := s.toks) (o := .lst (pickV xs lo hi st)) (fun b ob q => Heap.get?_push_of_some _ q) (Nat.le_refl _) ?_, rfl, q _ (I.hok.fresh (Nat.le_refl _))⟩
  refine ⟨?_, (slicePick its.toArray lo hi (some st)).toList, 0, hv, ?_⟩
  · have e1 : its.toArray.size = xs.length := by rw [List.size_toArray]; exact hlen.symm
    rw [hv.length, Array.length_toList]
    exact Nat.le_trans hsz (by rw [e1]; exact hz)
  · simpa using Heap.get?_push_size _ rfl
theorem slLS (K : PySem.W.Frag) (h : X.K = K := by rfl) : SlRS X (rSlLS K) := by subst h; exact sl_listS
end
theorem sliceRange_down (n : Nat) : sliceRange ((n : Int) - 1) (-1) (-1) = (List.range n).map fun i => n - 1 - i := by
  unfold sliceRange
  have hc : (if (-1 : Int) > 0 then (if (n : Int) - 1 < -1 then (-1 - ((n : Int) - 1) + -1 - 1) / -1 else 0) else (if (n : Int) - 1 > -1 then ((n : Int) - 1 - -1 - -1 - 1) / (- -1) else 0)).toNat = n := by
    rw [if_neg (by decide)]
    by_cases h : (n : Int) - 1 > -1
    · rw [if_pos h, show (- -1 : Int) = 1 by decide, Int.ediv_one]; omega
    · rw [if_neg h]; omega
  simp only []
  rw [hc]
  apply List.map_congr_left
  intro k hk
  have := List.mem_range.mp hk
  omega
theorem filterMap_rev {α : Type} (xs : List α) : ((List.range xs.length).map fun i => xs.length - 1 - i).filterMap (fun i => xs[i]?) = xs.reverse := by
  rw [List.filterMap_map]
  have e : ∀ n, n ≤ xs.length → (List.range n).filterMap ((fun i => xs[i]?) ∘ fun i => xs.length - 1 - i) = xs.reverse.take n := by
    intro n
    induction n with
    | zero => intro _; rfl
    | succ n ih =>
      intro hn
      rw [List.range_succ, List.filterMap_append, ih (by omega)]
      have h1 : xs[xs.length - 1 - n]? = some xs[xs.length - 1 - n] := List.getElem?_eq_getElem (by omega)
      rw [List.filterMap_cons]
      simp only [Function.comp, h1, List.filterMap_nil]
      rw [List.take_add_one, List.getElem?_reverse (by omega), h1]
      rfl
  rw [e _ (Nat.le_refl _)]
  exact List.take_of_length_le (by simp)
theorem pickV_rev (xs : List V) : pickV xs none none (-1) = xs.reverse := by
  have e : sliceRange (sliceBounds none none (some (-1)) xs.length).1 (sliceBounds none none (some (-1)) xs.length).2.1 (sliceBounds none none (some (-1)) xs.length).2.2 = sliceRange ((xs.length : Int) - 1) (-1) (-1) := rfl
  unfold pickV
  rw [e, sliceRange_down, filterMap_rev]

/-! ### insert, bit_length -/
section
variable {X : Cx}
def rInsert : V → List V → Hp → VK → Prop := fun x vs H Q => ∃ l xs i y, x = .ref l ∧ vs = [.int i, y] ∧ H l = some (.lst xs) ∧ 0 ≤ i ∧ i ≤ xs.length ∧ xs.length < sizeLine ∧ Q .non (upd H l (.lst (xs.take i.toNat ++ y :: xs.drop i.toNat)))
def rBits : V → List V → Hp → VK → Prop := fun x vs H Q => ∃ i, x = .int i ∧ vs = [] ∧ Q (.int (Builtin.Int.intBits i : Nat)) H
def rTupQ (K : PySem.W.Frag) : List V → Hp → VK → Prop := fun xs H Q => ∃ p ys, xs = [.ref p] ∧ ((SqL K H p ys ∧ ∀ l, H l = none → Q (.ref l) (upd H l (.tup ys))) ∨ (SqT K H p ys ∧ Q (.ref p) H))
end
end L2

set_option Elab.async false
set_option linter.all false
set_option maxRecDepth 100000
/-! MY LAYER, 11: a walk over a text's signs; is True, is not True; > of texts -/
namespace L2
open PySem PySem.Spec PyProof.Rows
def Its (z : Str) : It := ⟨fun i _ => i < z.cps.size, fun i H v H' => H' = H ∧ ∃ c, z.cps[i]? = some c ∧ v = .str ⟨#[c]⟩, fun i _ => z.cps.size ≤ i⟩
section
variable {X : Cx} {tg : Expr}
def iStr (tl : TE) : TI := fun σ H R => tl σ H fun x H1 => ∃ z, x = .str z ∧ R (Its z) H1
end
end L2

set_option Elab.async false
set_option linter.all false
set_option maxRecDepth 100000
/-! MY LAYER, 12: str() of data, comprehensions over a text with a test -/
namespace L2
open PySem PySem.Spec PyProof.Rows
/-- what str() makes of data -/
def strD : PyData → Str
  | .str z => z
  | d => d.shown
def rStrD (K : PySem.W.Frag) : List V → Hp → VK → Prop := fun xs H Q => ∃ x d, xs = [x] ∧ DV K H x d ∧ PyData.layable0 d = true ∧ d.intsShort 13 = true ∧ d.showable = true ∧ Q (.str (strD d)) H
end L2

set_option Elab.async false
set_option linter.all false
set_option maxRecDepth 100000
/-! MY LAYER, 13: a dict by tuples: {}, setdefault -/
namespace L2
open PySem PySem.Spec PyProof.Rows
def lookK (kvs : List (List Key × V)) (k : List Key) : Option V := (kvs.find? fun kv => decide (kv.1 = k)).map (·.2)
abbrev PairT (H : Hp) : List (List Key × V) → List (List Key × Addr × Value) → Prop := Paired fun (p : List Key × V) (q : List Key × Addr × Value) => p.1 = q.1 ∧ H q.2.1 = some (.tup (p.1.map kV)) ∧ RelV p.2 q.2.2
theorem key_is {P : Program} {w : World} {k : Key} {u : Value} (r : RelV (kV k) u) : (mixKind P w).is k u = true := by
  rcases k with i | x
  · obtain ⟨t, e⟩ := (show ∃ t, u = Value.int i t from r)
    rw [e]
    exact mixKind_int P w i t
  · obtain ⟨t, e⟩ := (show ∃ t, u = Value.str x t from r)
    rw [e]
    exact mixKind_str P w x t
theorem keys_are {P : Program} {w : World} : ∀ (ks : List Key) (us : List Value), Vals (ks.map kV) us → ItemsAre (mixKind P w) ks us := by
  intro ks
  induction ks with
  | nil => intro us r; cases (show Vals [] us from r); exact .nil
  | cons k ks ih =>
    intro us r
    cases (show Vals (kV k :: ks.map kV) us from r) with
    | cons a b => exact .cons (key_is a) (ih _ b)
section
variable {X : Cx} {pins : List (Addr × Obj)} {σ : St} {H : Hp} {s : Shared}
theorem Inv.tkey {ks : List Key} {b : Addr} (I : Inv X pins σ H s) (e : H b = some (.tup (ks.map kV))) : (tupleKind (mixKind X.prog X.w)).is s.heap ks b := by
  obtain ⟨_, its, r, hb⟩ := I.hok b _ e
  obtain ⟨o, h1, h2, n, h3⟩ := hb
  refine ⟨o, its.toArray, n, h1, h2, h3, ?_⟩
  have := keys_are (P := X.prog) (w := X.w) ks its r
  simpa using this
/-- {} -/
def tNewT : TE := fun _ H Q => ∀ p, H p = none → Q (.ref p) (upd H p (.dT []))
end
def rSetDef : V → List V → Hp → VK → Prop := fun x vs H Q => ∃ d kvs b ks y, x = .ref d ∧ vs = [.ref b, y] ∧ H d = some (.dT kvs) ∧ H b = some (.tup (ks.map kV)) ∧ kvs.length < sizeLine ∧
  (∀ v, lookK kvs ks = some v → Q v H) ∧ (lookK kvs ks = none → Q y (upd H d (.dT (kvs ++ [(ks, y)]))))
end L2

set_option Elab.async false
set_option linter.all false
set_option maxRecDepth 100000
/-! MY LAYER, 19: a range as a value, list(range), comprehensions with a test -/
namespace L2
open PySem PySem.Spec PyProof.Rows
def rRng1 : List V → Hp → VK → Prop := fun xs H Q => ∃ j : Int, xs = [.int j] ∧ ∀ p, H p = none → Q (.ref p) (upd H p (.rng 0 j))
def rRng2 : List V → Hp → VK → Prop := fun xs H Q => ∃ i j : Int, xs = [.int i, .int j] ∧ ∀ p, H p = none → Q (.ref p) (upd H p (.rng i j))
/-- the numbers from lo on -/
def upsI (lo : Int) (n : Nat) : List Int := (List.range n).map fun (k : Nat) => lo + k
theorem upsI_len (lo : Int) (n : Nat) : (upsI lo n).length = n := by simp [upsI]
def rListR : List V → Hp → VK → Prop := fun xs H Q => ∃ (p : Addr) (lo hi : Int), xs = [.ref p] ∧ H p = some (.rng lo hi) ∧ -(2 ^ 62) ≤ lo ∧ lo < 2 ^ 62 ∧ -(2 ^ 62) ≤ hi ∧ hi < 2 ^ 62 ∧ (hi - lo).toNat ≤ 1000 ∧
  ∀ l, H l = none → Q (.ref l) (upd H l (.lst ((upsI lo (hi - lo).toNat).map V.int)))
end L2

set_option Elab.async false
set_option linter.all false
set_option maxRecDepth 100000
/-! MY LAYER, 20: t[::-1] of a tuple, extend by a tuple, xs[a:c] = ys, sum of ints to 10 ** 10 -/
namespace L2
open PySem PySem.Spec PyProof.Rows
section
variable {prog : Program} {w : World} {A : Around} {E : Value → Shared → Prop} {s : Shared}
end
section
variable {X : Cx}
def rSlTS (K : PySem.W.Frag) : V → Option Int → Option Int → Int → Hp → VK → Prop := fun x lo hi st H Q => ∃ a xs, x = .ref a ∧ SqT K H a xs ∧ lo = none ∧ hi = none ∧ st = -1 ∧ ∀ p, H p = none → Q (.ref p) (upd H p (.tup xs.reverse))
def rExtendT (K : PySem.W.Frag) : V → List V → Hp → VK → Prop := fun x vs H Q => ∃ l b xs zs, x = .ref l ∧ vs = [.ref b] ∧ H l = some (.lst xs) ∧ H b = some (.tup zs) ∧ xs.length + zs.length ≤ sizeLine ∧ Q .non (upd H l (.lst (xs ++ zs)))
theorem listItems_at {prog : Program} {w : World} {A : Around} {E : Value → Shared → Prop} {s : Shared} {a : Addr} {o : Obj} {xs : Array Value} {n : Nat} {Q : Array Value → Shared → Prop} (ho : s.heap.get? a = some o) (hd : o.data = .seq xs n) (h : Q xs s) : wpAny (model prog w) A (Builtin.List.listItems (.ref a)) Q E s := by
  unfold Builtin.List.listItems
  exact wpAny_bind (wpAny_seqItems ho hd (wpAny_pure h))
/-- o[lo:hi] = .. of another list -/
def gSlice (to : TE) (tl th : TO) : TG := fun v σ H Q => to σ H fun o H1 => tl σ H1 fun l H2 => th σ H2 fun u H3 => ∃ (p b : Addr) (xs ys : List V) (a c : Int), o = .ref p ∧ v = .ref b ∧ l = some a ∧ u = some c ∧ H3 p = some (.lst xs) ∧ H3 b = some (.lst ys) ∧ p ≠ b ∧ 0 ≤ a ∧ a ≤ c ∧ c ≤ xs.length ∧ xs.length + ys.length ≤ sizeLine ∧
  Q σ (upd H3 p (.lst (xs.take a.toNat ++ ys ++ xs.drop c.toNat)))
def rSumB (K : PySem.W.Frag) : List V → Hp → VK → Prop := fun vs H Q => ∃ (p : Addr) (ns : List Int), vs = [.ref p] ∧ SqL K H p (ns.map V.int) ∧ ns.length ≤ 1000 ∧ (∀ n ∈ ns, 0 ≤ n ∧ n ≤ 10000000000) ∧ Q (.int ns.sum) H
end
end L2

set_option Elab.async false
set_option linter.all false
set_option maxRecDepth 100000
/-! MY LAYER, 21: sorted of things whose order stands in the heap (fewer than 64) -/
namespace L2
open PySem PySem.Spec PyProof.Rows
section
variable {prog : Program} {w : World} {A : Around} {E : Value → Shared → Prop} {s : Shared} {κ : PyProof.Rows.KeyKind} {k0 : SortKind} {a₀ : Array Keyed} {st : SortSt}
/-- the order at this very state -/
def LtAt (prog : Program) (w : World) (A : Around) (s : Shared) (k0 : SortKind) (κ : PyProof.Rows.KeyKind) : Prop :=
  ∀ (E : Value → Shared → Prop) (x y : Value) (a b : κ.α) (Q : Bool → Shared → Prop), κ.keyOf x = some a → κ.keyOf y = some b → Q (κ.blt a b) s → wpAny (model prog w) A (keyLt' k0 x y) Q E s
structure SB (k0 : SortKind) (a₀ : Array Keyed) (st : SortSt) : Prop where
  perm : (arrOf st).Perm a₀
  kind : kindOf st = k0
  failed : failedOf st = none
  pend : pendingOf st = #[]
theorem SB.size (B : SB k0 a₀ st) : (arrOf st).size = a₀.size := B.perm.size_eq
theorem SB.at (B : SB k0 a₀ st) (hk : PyProof.Rows.KeysOf κ a₀) {i : Nat} (hi : i < a₀.size) : ∃ x p, (arrOf st)[i]? = some (x, p) ∧ κ.keyOf x = some (KK κ (arrOf st) i) := by
  have hs := B.size
  have e : (arrOf st)[i]? = some (arrOf st)[i] := Array.getElem?_eq_getElem (by omega)
  have hm : (arrOf st)[i] ∈ a₀.toList := by
    have h1 : (arrOf st)[i] ∈ arrOf st := Array.getElem_mem (by omega)
    have h2 := (B.perm.mem_iff (a := (arrOf st)[i])).mp h1
    simpa using h2
  obtain ⟨a, ha⟩ := hk _ hm
  refine ⟨(arrOf st)[i].1, (arrOf st)[i].2, e, ?_⟩
  unfold KK
  rw [e]
  show _ = some ((κ.keyOf (arrOf st)[i].1).getD κ.dflt)
  rw [ha]
  rfl
theorem SB.set (B : SB k0 a₀ st) {xs : Array Keyed} (h : xs.Perm (arrOf st)) : SB k0 a₀ (setArr st xs) := ⟨h.trans B.perm, B.kind, B.failed, B.pend⟩
theorem w_elem {arr : Array Keyed} {i : Nat} {p : Keyed} {Q : Keyed → SortSt → Prop} (h : arr[i]? = some p) (q : Q p st) : wpS (model prog w) A E s (elem' arr i) Q st := by
  rw [elem'_eq, h]
  exact wpS_pure q
theorem w_lt (hL : LtAt prog w A s k0 κ) (hk : PyProof.Rows.KeysOf κ a₀) (B : SB k0 a₀ st) {i j : Nat} (hi : i < a₀.size) (hj : j < a₀.size) {Q : Option Bool → SortSt → Prop} (q : Q (some (κ.blt (KK κ (arrOf st) i) (KK κ (arrOf st) j))) st) : wpS (model prog w) A E s (ltAt' i j) Q st := by
  obtain ⟨x, p, e1, k1⟩ := B.at hk hi
  obtain ⟨y, p', e2, k2⟩ := B.at hk hj
  rw [ltAt'_eq]
  refine wpS_bind (wpS_get ?_)
  show wpS _ _ _ _ (elem' (arrOf st) i >>= _) _ _
  refine wpS_bind (w_elem e1 (wpS_bind (w_elem e2 ?_)))
  rw [lt'_eq]
  refine wpS_bind (wpS_get (wpS_bind (wpS_lift (wpAny_attempt ?_))))
  rw [B.kind]
  refine hL _ x y _ _ _ k1 k2 ⟨rfl, ?_⟩
  exact wpS_pure q
theorem srt_succ {xs : Array Keyed} {i : Nat} (h0 : 1 ≤ i) (S : SortedToK κ xs i) (h : κ.kle (KK κ xs (i - 1)) (KK κ xs i)) : SortedToK κ xs (i + 1) := by
  intro a b hab hb
  by_cases e : b < i
  · exact S a b hab e
  · have eb : b = i := by omega
    subst eb
    by_cases ea : a = b
    · subst ea; exact KeyOrd.kle_refl _
    · exact KeyOrd.kle_trans (S a (b - 1) (by omega) (by omega)) h
theorem w_asc (hL : LtAt prog w A s k0 κ) (hk : PyProof.Rows.KeysOf κ a₀) {a nrem : Nat} (hn : nrem ≤ a₀.size) (h1 : 1 ≤ a) (ha : a ≤ nrem) (B : SB k0 a₀ st) (S : SortedToK κ (arrOf st) a) {Q : AscSt → SortSt → Prop}
    (q : ∀ n, a ≤ n → n ≤ nrem → SortedToK κ (arrOf st) n → (n = nrem ∨ κ.klt (KK κ (arrOf st) n) (KK κ (arrOf st) (n - 1))) → Q (none, n) st) : wpS (model prog w) A E s (ascLoop a nrem) Q st := by
  unfold ascLoop
  refine wpS_forRange (fun i c st' => st' = st ∧ c = (none, i) ∧ SortedToK κ (arrOf st) i) ?_ ?_ ⟨rfl, rfl, S⟩
  · rintro i c st' hai hin ⟨rfl, rfl, S'⟩
    refine wpS_bind (w_lt hL hk B (by show i < _; omega) (by show i - 1 < _; omega) ?_)
    cases hb : κ.blt (KK κ (arrOf st') i) (KK κ (arrOf st') (i - 1)) with
    | true => exact wpS_pure (q i hai (by omega) S' (.inr hb))
    | false => exact wpS_pure ⟨rfl, rfl, srt_succ (by omega) S' hb⟩
  · rintro c st' ⟨rfl, rfl, S'⟩
    rw [show max a nrem = nrem by omega] at S' ⊢
    exact q nrem ha (Nat.le_refl _) S' (.inl rfl)
theorem w_rev {i j : Nat} {Q : Unit → SortSt → Prop} (q : Q () (setArr st (mirror (arrOf st) i j ((j - i) / 2)))) : wpS (model prog w) A E s (reverseSlice' i j) Q st := wpS_reverse q
theorem arr_set (st : SortSt) (xs : Array Keyed) : arrOf (setArr st xs) = xs := rfl
theorem w_desc (hL : LtAt prog w A s k0 κ) (hk : PyProof.Rows.KeysOf κ a₀) {n nrem : Nat} (hn : nrem ≤ a₀.size) (h1 : 1 ≤ n) (hnn : n ≤ nrem) (B : SB k0 a₀ st) (S : NonIncK κ (arrOf st) n) {Q : DescSt → SortSt → Prop}
    (q : ∀ (m neq : Nat) (st' : SortSt), SB k0 a₀ st' → n ≤ m → m ≤ nrem → NonIncK κ (arrOf st') m → neq + 1 ≤ m → (∀ i, m - (neq + 1) ≤ i → i < m → KK κ (arrOf st') i = KK κ (arrOf st') (m - 1)) → Q (none, m, neq) st') : wpS (model prog w) A E s (descLoop n nrem) Q st := by
  unfold descLoop
  refine wpS_forRange (fun i c st' => ∃ neq, c = (none, i, neq) ∧ SB k0 a₀ st' ∧ n ≤ i ∧ i ≤ nrem ∧ NonIncK κ (arrOf st') i ∧ neq + 1 ≤ i ∧ (∀ k, i - (neq + 1) ≤ k → k < i → KK κ (arrOf st') k = KK κ (arrOf st') (i - 1))) ?_ ?_ ?_
  · rintro i c st' hai hin ⟨neq, rfl, B', hi1, hi2, N', hq, heq⟩
    have more : ∀ (st2 : SortSt), SB k0 a₀ st2 → (∀ k, KK κ (arrOf st2) k = KK κ (arrOf st') k) → κ.kle (KK κ (arrOf st') i) (KK κ (arrOf st') (i - 1)) → NonIncK κ (arrOf st2) (i + 1) := fun st2 B2 e hle a b hab hb => by
      rw [e a, e b]
      by_cases hbi : b < i
      · exact N' a b hab hbi
      · have eb : b = i := by omega
        subst eb
        by_cases ea : a = b
        · subst ea; exact KeyOrd.kle_refl _
        · exact KeyOrd.kle_trans hle (N' a (b - 1) (by omega) (by omega))
    refine wpS_bind (w_lt hL hk B' (by show i < _; omega) (by show i - 1 < _; omega) ?_)
    cases hb : κ.blt (KK κ (arrOf st') i) (KK κ (arrOf st') (i - 1)) with
    | true =>
      have hle : κ.kle (KK κ (arrOf st') i) (KK κ (arrOf st') (i - 1)) := KeyOrd.kle_of_klt hb
      show wpS _ _ _ _ (if neq > 0 then _ else _) _ _
      by_cases h0 : neq > 0
      · rw [if_pos h0]
        refine wpS_bind (w_rev (wpS_pure ?_))
        have e : ∀ k, KK κ (mirror (arrOf st') (i - (neq + 1)) i ((i - (i - (neq + 1))) / 2)) k = KK κ (arrOf st') k := KK_mirror_equal (by rw [B'.size]; omega) (fun k h1 h2 => heq k h1 h2)
        refine ⟨0, rfl, B'.set (mirror_perm _ _ _ _), by omega, by omega, more _ (B'.set (mirror_perm _ _ _ _)) e hle, by omega, fun k h1 h2 => ?_⟩
        have : k = i := by omega
        subst this
        rfl
      · rw [if_neg h0]
        refine wpS_pure ⟨0, rfl, B', by omega, by omega, more _ B' (fun _ => rfl) hle, by omega, fun k h1 h2 => ?_⟩
        have : k = i := by omega
        subst this
        rfl
    | false =>
      refine wpS_bind (w_lt hL hk B' (by show i - 1 < _; omega) (by show i < _; omega) ?_)
      cases hb2 : κ.blt (KK κ (arrOf st') (i - 1)) (KK κ (arrOf st') i) with
      | true => exact wpS_pure (q i neq st' B' hi1 hi2 N' hq heq)
      | false =>
        have ee := κ.total _ _ hb hb2
        refine wpS_pure ⟨neq + 1, rfl, B', by omega, by omega, more _ B' (fun _ => rfl) hb2, by omega, fun k h1 h2 => ?_⟩
        show KK κ (arrOf st') k = KK κ (arrOf st') i
        by_cases hki : k = i
        · rw [hki]
        · rw [ee]; exact heq k (by omega) (by omega)
  · rintro c st' ⟨neq, rfl, B', hi1, hi2, N', hq, heq⟩
    rw [show max n nrem = nrem by omega] at *
    exact q nrem neq st' B' hi1 hi2 N' hq heq
  · refine ⟨0, rfl, B, Nat.le_refl _, hnn, S, by omega, fun k h1 h2 => ?_⟩
    have : k = n - 1 := by omega
    rw [this]
theorem w_tail (hL : LtAt prog w A s k0 κ) (hk : PyProof.Rows.KeysOf κ a₀) {n nrem : Nat} (hn : nrem ≤ a₀.size) (h1 : 1 ≤ n) (hnn : n ≤ nrem) (B : SB k0 a₀ st) (N : NonIncK κ (arrOf st) n) {Q : Option Nat → SortSt → Prop}
    (q : ∀ (m : Nat) (st' : SortSt), SB k0 a₀ st' → 1 ≤ m → m ≤ nrem → SortedToK κ (arrOf st') m → Q (some m) st') : wpS (model prog w) A E s (tail3 n nrem) Q st := by
  unfold tail3
  refine wpS_bind (w_rev ?_)
  have B' := B.set (mirror_perm (arrOf st) 0 n ((n - 0) / 2))
  have e := KK_mirror (κ := κ) (xs := arrOf st) (i := 0) (j := n) (by rw [B.size]; omega)
  have S : SortedToK κ (mirror (arrOf st) 0 n ((n - 0) / 2)) n := fun a b hab hb => by
    rw [e a, e b, if_pos ⟨by omega, by omega⟩, if_pos ⟨by omega, by omega⟩]
    exact N _ _ (by omega) (by omega)
  refine wpS_bind (w_asc hL hk hn h1 hnn B' S fun m hm1 hm2 S' _ => ?_)
  exact wpS_pure (q m _ B' (by omega) hm2 S')
theorem w_part (hL : LtAt prog w A s k0 κ) (hk : PyProof.Rows.KeysOf κ a₀) {n nrem : Nat} (hn : nrem ≤ a₀.size) (hnn : n + 1 ≤ nrem) (B : SB k0 a₀ st) (N : NonIncK κ (arrOf st) (n + 1)) {Q : Option Nat → SortSt → Prop}
    (q : ∀ (m : Nat) (st' : SortSt), SB k0 a₀ st' → 1 ≤ m → m ≤ nrem → SortedToK κ (arrOf st') m → Q (some m) st') : wpS (model prog w) A E s (descPart n nrem) Q st := by
  unfold descPart
  refine wpS_bind (wpS_lift (wpAny_rule ⟨rfl, ?_⟩))
  refine wpS_bind (w_desc hL hk hn (by omega) hnn B N fun m neq st' B' m1 m2 N' hq heq => ?_)
  show wpS _ _ _ _ (if neq > 0 then _ else _) _ _
  by_cases h0 : neq > 0
  · rw [if_pos h0]
    refine wpS_bind (w_rev ?_)
    have e : ∀ k, KK κ (mirror (arrOf st') (m - (neq + 1)) m ((m - (m - (neq + 1))) / 2)) k = KK κ (arrOf st') k := KK_mirror_equal (by rw [B'.size]; omega) (fun k h1 h2 => heq k h1 h2)
    exact w_tail hL hk hn (by omega) m2 (B'.set (mirror_perm _ _ _ _)) (fun a b hab hb => by rw [e a, e b]; exact N' a b hab hb) q
  · rw [if_neg h0]
    exact w_tail hL hk hn (by omega) m2 B' N' q
theorem w_count (hL : LtAt prog w A s k0 κ) (hk : PyProof.Rows.KeysOf κ a₀) {nrem : Nat} (hn : nrem ≤ a₀.size) (h1 : 1 ≤ nrem) (B : SB k0 a₀ st) {Q : Option Nat → SortSt → Prop}
    (q : ∀ (m : Nat) (st' : SortSt), SB k0 a₀ st' → 1 ≤ m → m ≤ nrem → SortedToK κ (arrOf st') m → Q (some m) st') : wpS (model prog w) A E s (countRun' 0 nrem) Q st := by
  rw [countRun0_eq]
  refine wpS_bind (w_asc hL hk hn (Nat.le_refl 1) h1 B (fun a b hab hb => by have e : a = b := by omega
                                                                             subst e; exact KeyOrd.kle_refl _) fun n n1 n2 S hor => ?_)
  show wpS _ _ _ _ (if (n == nrem) = true then _ else _) _ _
  by_cases hnn : n = nrem
  · rw [if_pos (by rw [hnn]; exact beq_self_eq_true _)]
    exact wpS_pure (q n st B n1 n2 S)
  · rw [if_neg (by intro z; exact hnn (eq_of_beq z))]
    have hlt := hor.resolve_left hnn
    have flat : (∀ k, k < n → KK κ (arrOf st) k = KK κ (arrOf st) (n - 1)) → NonIncK κ (arrOf st) (n + 1) := fun hf a b hab hb => by
      by_cases hbn : b < n
      · rw [hf a (by omega), hf b hbn]; exact KeyOrd.kle_refl _
      · have eb : b = n := by omega
        subst eb
        by_cases ea : a = b
        · subst ea; exact KeyOrd.kle_refl _
        · rw [hf a (by omega)]; exact KeyOrd.kle_of_klt hlt
    by_cases hn1 : n > 1
    · rw [if_pos hn1]
      refine wpS_bind (w_lt hL hk B (by omega) (by omega) ?_)
      cases hb : κ.blt (KK κ (arrOf st) 0) (KK κ (arrOf st) (n - 1)) with
      | true => exact wpS_pure (q n st B n1 n2 S)
      | false =>
        have hf : ∀ k, k < n → KK κ (arrOf st) k = KK κ (arrOf st) (n - 1) := fun k hkn => by
          have a1 : κ.kle (KK κ (arrOf st) k) (KK κ (arrOf st) (n - 1)) := S k (n - 1) (by omega) (by omega)
          have a2 : κ.kle (KK κ (arrOf st) (n - 1)) (KK κ (arrOf st) k) := KeyOrd.kle_trans (show κ.kle (KK κ (arrOf st) (n - 1)) (KK κ (arrOf st) 0) from hb) (S 0 k (by omega) (by omega))
          exact KeyOrd.kle_antisymm a1 a2
        refine wpS_bind (w_rev ?_)
        have e : ∀ k, KK κ (mirror (arrOf st) 0 n ((n - 0) / 2)) k = KK κ (arrOf st) k := KK_mirror_equal (by rw [B.size]; omega) (fun k _ h2 => hf k h2)
        exact w_part hL hk hn (by omega) (B.set (mirror_perm _ _ _ _)) (fun a b hab hb => by rw [e a, e b]; exact flat hf a b hab hb) q
    · rw [if_neg hn1]
      exact w_part hL hk hn (by omega) B (flat fun k hkn => by have : k = n - 1 := by omega
                                                               rw [this]) q
theorem w_binary (hL : LtAt prog w A s k0 κ) (hk : PyProof.Rows.KeysOf κ a₀) {n ok : Nat} (hn : n ≤ a₀.size) (h1 : ok ≤ n) (h0 : 1 ≤ ok) (B : SB k0 a₀ st) (S : SortedToK κ (arrOf st) ok) {Q : Bool → SortSt → Prop}
    (q : ∀ (st' : SortSt), SB k0 a₀ st' → SortedToK κ (arrOf st') n → Q true st') : wpS (model prog w) A E s (binarySort' 0 n ok) Q st := by
  rw [binarySort'_eq]
  refine wpS_bind ?_
  refine wpS_forRange (fun i c st' => c = (none, ()) ∧ SB k0 a₀ st' ∧ SortedToK κ (arrOf st') i) ?_ ?_ ⟨rfl, B, by rw [show max ok 1 = ok by omega]; exact S⟩
  · rintro k c st' hak hkn ⟨rfl, B', S'⟩
    have k1 : 1 ≤ k := by omega
    refine wpS_bind ?_
    refine wpS_forRange (fun i c st2 => ∃ l r, c = (none, l, r) ∧ st2 = st' ∧ l ≤ r ∧ r ≤ k ∧ r - l ≤ k - i ∧ (∀ j, j < l → κ.kle (KK κ (arrOf st') j) (KK κ (arrOf st') k)) ∧ (∀ j, r ≤ j → j < k → κ.klt (KK κ (arrOf st') k) (KK κ (arrOf st') j))) ?_ ?_ ⟨0, k, rfl, rfl, Nat.zero_le _, Nat.le_refl _, by omega, fun j h => by omega, fun j h1 h2 => by omega⟩
    · rintro i c st2 hi0 hik ⟨l, r, rfl, rfl, hlr, hrk, hm, hlo, hhi⟩
      show wpS _ _ _ _ (if l ≥ r then _ else _) _ _
      by_cases hge : l ≥ r
      · rw [if_pos hge]
        refine wpS_pure ?_
        have elr : l = r := by omega
        subst elr
        refine wpS_bind ?_
        rw [moveDown'_eq]
        refine wpS_modify (wpS_pure ?_)
        have eb := KK_bubble (κ := κ) (xs := arrOf st2) (src := 0 + k) (d := 0 + k - (0 + l)) (by rw [B'.size]; omega) (by omega)
        refine ⟨rfl, B'.set (bubble_perm _ _ _), fun a b hab hb => ?_⟩
        show κ.kle (KK κ (bubble (arrOf st2) (0 + k) (0 + k - (0 + l))) a) (KK κ (bubble (arrOf st2) (0 + k) (0 + k - (0 + l))) b)
        rw [eb a, eb b]
        rw [show 0 + k = k by omega, show 0 + l = l by omega, show k - (k - l) = l by omega]
        by_cases ha : a = l
        · rw [if_pos ha]
          by_cases hbl : b = l
          · rw [if_pos hbl]; exact KeyOrd.kle_refl _
          · rw [if_neg hbl, if_pos ⟨by omega, by omega⟩]
            exact KeyOrd.kle_of_klt (hhi (b - 1) (by omega) (by omega))
        · rw [if_neg ha]
          by_cases hal : a < l
          · rw [if_neg (by omega)]
            by_cases hbl : b = l
            · rw [if_pos hbl]; exact hlo a hal
            · rw [if_neg hbl]
              by_cases hbb : l < b
              · rw [if_pos ⟨hbb, by omega⟩]; exact S' a (b - 1) (by omega) (by omega)
              · rw [if_neg (by omega)]; exact S' a b hab (by omega)
          · rw [if_pos ⟨by omega, by omega⟩, if_neg (by omega), if_pos ⟨by omega, by omega⟩]
            exact S' (a - 1) (b - 1) (by omega) (by omega)
      · rw [if_neg hge]
        refine wpS_bind (w_lt hL hk B' (by show 0 + k < _; omega) (by show 0 + (l + r) / 2 < _; omega) ?_)
        rw [show 0 + k = k by omega, show 0 + (l + r) / 2 = (l + r) / 2 by omega]
        cases hb : κ.blt (KK κ (arrOf st2) k) (KK κ (arrOf st2) ((l + r) / 2)) with
        | true =>
          refine wpS_pure ⟨l, (l + r) / 2, rfl, rfl, by omega, by omega, by omega, hlo, fun j h1 h2 => ?_⟩
          exact KeyOrd.klt_of_klt_of_kle hb (S' _ j h1 h2)
        | false =>
          refine wpS_pure ⟨(l + r) / 2 + 1, r, rfl, rfl, by omega, by omega, by omega, fun j h => ?_, hhi⟩
          exact KeyOrd.kle_trans (S' j ((l + r) / 2) (by omega) (by omega)) hb
    · rintro c st2 ⟨l, r, rfl, rfl, hlr, hrk, hm, hlo, hhi⟩
      have elr : l = r := by omega
      subst elr
      refine wpS_bind ?_
      rw [moveDown'_eq]
      refine wpS_modify (wpS_pure ?_)
      have eb := KK_bubble (κ := κ) (xs := arrOf st2) (src := 0 + k) (d := 0 + k - (0 + l)) (by rw [B'.size]; omega) (by omega)
      refine ⟨rfl, B'.set (bubble_perm _ _ _), fun a b hab hb => ?_⟩
      show κ.kle (KK κ (bubble (arrOf st2) (0 + k) (0 + k - (0 + l))) a) (KK κ (bubble (arrOf st2) (0 + k) (0 + k - (0 + l))) b)
      rw [eb a, eb b]
      rw [show 0 + k = k by omega, show 0 + l = l by omega, show k - (k - l) = l by omega]
      by_cases ha : a = l
      · rw [if_pos ha]
        by_cases hbl : b = l
        · rw [if_pos hbl]; exact KeyOrd.kle_refl _
        · rw [if_neg hbl, if_pos ⟨by omega, by omega⟩]
          exact KeyOrd.kle_of_klt (hhi (b - 1) (by omega) (by omega))
      · rw [if_neg ha]
        by_cases hal : a < l
        · rw [if_neg (by omega)]
          by_cases hbl : b = l
          · rw [if_pos hbl]; exact hlo a hal
          · rw [if_neg hbl]
            by_cases hbb : l < b
            · rw [if_pos ⟨hbb, by omega⟩]; exact S' a (b - 1) (by omega) (by omega)
            · rw [if_neg (by omega)]; exact S' a b hab (by omega)
        · rw [if_pos ⟨by omega, by omega⟩, if_neg (by omega), if_pos ⟨by omega, by omega⟩]
          exact S' (a - 1) (b - 1) (by omega) (by omega)
  · rintro c st' ⟨rfl, B', S'⟩
    rw [show max (max ok 1) n = n by omega] at S'
    exact wpS_pure (q st' B' S')
theorem w_runs (hL : LtAt prog w A s k0 κ) (hk : PyProof.Rows.KeysOf κ a₀) (B : SB k0 a₀ st) (h2 : 2 ≤ a₀.size) (h64 : a₀.size < 64) {Q : Unit → SortSt → Prop}
    (q : ∀ (st' : SortSt), (arrOf st').Perm a₀ → failedOf st' = none → SortedToK κ (arrOf st') a₀.size → Q () st') : wpS (model prog w) A E s sortRuns' Q st := by
  rw [sortRuns'_eq]
  refine wpS_bind (wpS_get ?_)
  have hsz := B.size
  have hmin : minRun' (arrOf st).size (arrOf st).size 0 = (arrOf st).size := by
    obtain ⟨f, hf⟩ : ∃ f, (arrOf st).size = f + 1 := ⟨(arrOf st).size - 1, by omega⟩
    rw [show minRun' (arrOf st).size (arrOf st).size 0 = minRun' (f + 1) (arrOf st).size 0 by rw [← hf], minRun'_succ, if_pos (by omega)]
    rfl
  refine wpS_bind ?_
  refine wpS_forRange (fun i c st' => (i = 0 ∧ c = (none, 0) ∧ st' = st) ∨ (i ≠ 0 ∧ c = (none, a₀.size) ∧ (arrOf st').Perm a₀ ∧ failedOf st' = none ∧ (pendingOf st').size ≤ 1 ∧ SortedToK κ (arrOf st') a₀.size)) ?_ ?_ (.inl ⟨rfl, rfl, rfl⟩)
  · rintro i c st' hi0 hi ⟨⟩
    · rename_i h
      obtain ⟨rfl, rfl, rfl⟩ := h
      show wpS _ _ _ _ (if 0 ≥ (arrOf st').size then _ else _) _ _
      rw [if_neg (by omega)]
      refine wpS_bind ?_
      rw [show (arrOf st').size - 0 = a₀.size by omega]
      refine w_count hL hk (Nat.le_refl _) (by omega) B fun m st2 B2 m1 m2 S2 => ?_
      have push : ∀ (st3 : SortSt), SB k0 a₀ st3 → SortedToK κ (arrOf st3) a₀.size → (arrOf (setPending st3 ((pendingOf st3).push (0, a₀.size, 0)))).Perm a₀ ∧ failedOf (setPending st3 ((pendingOf st3).push (0, a₀.size, 0))) = none ∧ (pendingOf (setPending st3 ((pendingOf st3).push (0, a₀.size, 0)))).size ≤ 1 ∧ SortedToK κ (arrOf (setPending st3 ((pendingOf st3).push (0, a₀.size, 0)))) a₀.size := fun st3 B3 S3 =>
        ⟨B3.perm, B3.failed, by show ((pendingOf st3).push (0, a₀.size, 0)).size ≤ 1; rw [B3.pend, Array.size_push]; exact Nat.le_refl _, S3⟩
      show wpS _ _ _ _ (if m < minRun' (arrOf st').size (arrOf st').size 0 then _ else _) _ _
      rw [hmin, hsz]
      by_cases hm : m < a₀.size
      · rw [if_pos hm]
        refine wpS_bind (wpS_lift (wpAny_rule ⟨rfl, ?_⟩))
        show wpS _ _ _ _ (binarySort' 0 (min a₀.size a₀.size) m >>= _) _ _
        rw [Nat.min_self]
        refine wpS_bind (w_binary hL hk (Nat.le_refl _) (by omega) m1 B2 S2 fun st3 B3 S3 => ?_)
        show wpS _ _ _ _ (get >>= _) _ _
        refine wpS_bind (wpS_get ?_)
        show wpS _ _ _ _ (match (pendingOf st3).back? with | some (s1, n1, snd) => _ | x => _) _ _
        rw [show (pendingOf st3).back? = none by rw [B3.pend]; rfl]
        show wpS _ _ _ _ (modify _ >>= _) _ _
        refine wpS_bind (wpS_modify (wpS_pure (.inr ⟨by omega, ?_, push st3 B3 S3⟩)))
        show (none, 0 + a₀.size) = (none, a₀.size)
        rw [Nat.zero_add]
      · rw [if_neg hm]
        have em : m = a₀.size := by omega
        subst em
        show wpS _ _ _ _ (get >>= _) _ _
        refine wpS_bind (wpS_get ?_)
        show wpS _ _ _ _ (match (pendingOf st2).back? with | some (s1, n1, snd) => _ | x => _) _ _
        rw [show (pendingOf st2).back? = none by rw [B2.pend]; rfl]
        show wpS _ _ _ _ (modify _ >>= _) _ _
        refine wpS_bind (wpS_modify (wpS_pure (.inr ⟨by omega, ?_, push st2 B2 S2⟩)))
        show (none, 0 + a₀.size) = (none, a₀.size)
        rw [Nat.zero_add]
    · rename_i h
      obtain ⟨hne, rfl, p1, p2, p3, p4⟩ := h
      show wpS _ _ _ _ (if a₀.size ≥ (arrOf st).size then _ else _) _ _
      rw [if_pos (by omega)]
      refine wpS_pure ?_
      show wpS _ _ _ _ (forIn [:(arrOf st).size] (none, ()) _ >>= _) _ _
      refine wpS_bind ?_
      refine wpS_forRange (fun i c st2 => c = (none, ()) ∧ st2 = st') ?_ ?_ ⟨rfl, rfl⟩
      · rintro i c st2 _ _ ⟨rfl, rfl⟩
        show wpS _ _ _ _ (get >>= _) _ _
        refine wpS_bind (wpS_get ?_)
        show wpS _ _ _ _ (if (pendingOf st2).size ≤ 1 then _ else _) _ _
        rw [if_pos p3]
        exact wpS_pure (wpS_pure (q _ p1 p2 p4))
      · rintro c st2 ⟨rfl, rfl⟩
        exact wpS_pure (q _ p1 p2 p4)
  · rintro c st' ⟨⟩
    · rename_i h
      exact absurd h.1 (by omega)
    · rename_i h
      obtain ⟨hne, rfl, p1, p2, p3, p4⟩ := h
      show wpS _ _ _ _ (forIn [:(arrOf st).size] (none, ()) _ >>= _) _ _
      refine wpS_bind ?_
      refine wpS_forRange (fun i c st2 => c = (none, ()) ∧ st2 = st') ?_ ?_ ⟨rfl, rfl⟩
      · rintro i c st2 _ _ ⟨rfl, rfl⟩
        show wpS _ _ _ _ (get >>= _) _ _
        refine wpS_bind (wpS_get ?_)
        show wpS _ _ _ _ (if (pendingOf st2).size ≤ 1 then _ else _) _ _
        rw [if_pos p3]
        exact wpS_pure (wpS_pure (q _ p1 p2 p4))
      · rintro c st2 ⟨rfl, rfl⟩
        exact wpS_pure (q _ p1 p2 p4)
end
end L2

set_option Elab.async false
set_option linter.all false
set_option maxRecDepth 100000
/-! MY LAYER, 22: sorted of a list of tuples -/
namespace L2
open PySem PySem.Spec PyProof.Rows
section
variable {prog : Program} {w : World} {A : Around} {E : Value → Shared → Prop} {s : Shared} {κ : PyProof.Rows.KeyKind}
theorem w_sort {a : Addr} {vs : List Value} {n : Nat} {P : PySem.Fin → Shared → Prop} (ha : s.heap.get? a = some (seqObj "list" vs.toArray n)) (hk : PyProof.Rows.KeysOf κ (pairsOf vs)) (h2 : 2 ≤ vs.length) (h64 : vs.length < 64)
    (hK : ∀ (s' : Shared), (∀ b o, b ≠ a → s.heap.get? b = some o → s'.heap.get? b = some o) → ∀ (E : Value → Shared → Prop) (Q : SortKind → Shared → Prop), (∀ k0, LtAt prog w A s' k0 κ → Q k0 s') → wpAny (model prog w) A (keyKind' vs.toArray) Q E s')
    (q : ∀ (st' : SortSt), (arrOf st').Perm (pairsOf vs) → SortedToK κ (arrOf st') (pairsOf vs).size → P (Fin.done (Flow.ret Value.none)) { s with heap := sortedHeap s.heap a vs ((arrOf st').map fun x => x.snd) }) :
    wpAny (model prog w) A (Builtin.«list.sort» { pos := [.ref a] }) P E s := by
  have hz : vs.toArray.size ≤ sizeLine := by rw [List.size_toArray, sizeLine_eq]; omega
  rw [list_sort_plain]
  refine wpAny_bind (listItems_at ha rfl ?_)
  show wpAny _ _ (updateSeq a (fun x => #[]) >>= _) _ _ _
  refine wpAny_bind (wpAny_updateSeq ha rfl ?_ hz (by show 0 ≤ _; omega))
  have e1 := get?_update_seq ha (fun _ => #[])
  refine wpAny_bind (seqEpoch_at e1 rfl ?_)
  refine wpAny_bind (wpAny_newTuple ?_ (by simpa using hz))
  refine wpAny_bind (wpAny_newList ?_ (by show 0 ≤ _; omega))
  refine wpAny_holding ?_
  have hn2 : ¬ vs.toArray.size < 2 := by rw [List.size_toArray]; omega
  have hps : (pairsOf vs).size = vs.length := by unfold pairsOf; simp
  rw [if_neg hn2, if_neg hn2]
  have keep : ∀ b o, b ≠ a → s.heap.get? b = some o → (((s.heap.update a (Obj.mapSeq fun _ => #[])).push { cls := .type "tuple", data := .seq vs.toArray.toList.toArray }).push { cls := .type "list", data := .seq ([] : List Value).toArray }).get? b = some o := fun b o hb h =>
    Heap.get?_push_of_some _ (Heap.get?_push_of_some _ (Heap.get?_update_of_ne _ (Ne.symm hb) h))
  have e2 : (((s.heap.update a (Obj.mapSeq fun _ => #[])).push { cls := .type "tuple", data := .seq vs.toArray.toList.toArray }).push { cls := .type "list", data := .seq ([] : List Value).toArray }).get? a = some (seqObj "list" #[] _) := Heap.get?_push_of_some _ (Heap.get?_push_of_some _ e1)
  refine wpAny_bind (hK _ keep _ _ fun k0 hL => ?_)
  refine wpAny_bind ?_
  have B : SB k0 (pairsOf vs) (SortSt.mk' k0 (vs.toArray.zip vs.toArray) #[] 7 none) := ⟨Array.Perm.refl _, rfl, rfl, rfl⟩
  refine thn (w_runs (E := E) hL hk B (by rw [hps]; exact h2) (by rw [hps]; exact h64) (Q := fun _ st' => (arrOf st').Perm (pairsOf vs) ∧ failedOf st' = none ∧ SortedToK κ (arrOf st') (pairsOf vs).size) (fun st' a b c => ⟨a, b, c⟩)) fun r s' hr => ?_
  obtain ⟨⟨⟩, st'⟩ := r
  obtain ⟨rfl, p1, p2, p3⟩ := hr
  refine wpAny_bind (seqEpoch_at e2 rfl ?_)
  have hsz : ((arrOf st').map fun x => x.snd).size = vs.length := by rw [Array.size_map, p1.size_eq, hps]
  show wpAny _ _ (updateSeq a (fun x => (arrOf st').map fun x => x.snd) >>= _) _ _ _
  refine wpAny_bind (wpAny_updateSeq e2 rfl ?_ (by show 0 ≤ _; omega) (by show ((arrOf st').map fun x => x.snd).size ≤ _; rw [hsz]; rw [List.size_toArray] at hz; omega))
  rw [p2]
  rw [if_neg (by simp)]
  exact wpAny_pure (q st' p1 p3)
theorem w_sorted {l : Addr} {vs : List Value} {Q : Value → Shared → Prop} (hl : s.heap.IsList l vs.toArray) (hk : PyProof.Rows.KeysOf κ (pairsOf vs)) (h2 : 2 ≤ vs.length) (h64 : vs.length < 64)
    (hK : ∀ (A : Around) (s' : Shared), (∀ b o, s.heap.get? b = some o → s'.heap.get? b = some o) → ∀ (E : Value → Shared → Prop) (Q : SortKind → Shared → Prop), (∀ k0, LtAt prog w A s' k0 κ → Q k0 s') → wpAny (model prog w) A (keyKind' vs.toArray) Q E s')
    (q : ∀ (st' : SortSt), (arrOf st').Perm (pairsOf vs) → SortedToK κ (arrOf st') (pairsOf vs).size → Q (.ref (s.heap.objs.size + 1)) { s with heap := sortedAll s.heap vs ((arrOf st').map fun x => x.snd) }) :
    wpAny (model prog w) A (call (.builtin "sorted") [.ref l]) Q E s := by
  refine Calls.call_function_entry kind_sorted plain_sorted entry_sorted (args_sorted1 (.ref l)) ?_
  have hz : vs.length ≤ sizeLine := by rw [sizeLine_eq]; omega
  refine wpAny_bind (wpAny_pure (wpAny_bind (collect_list hl (wpAny_bind (wpAny_newList ?_ hz)) hz)))
  have hsz : ((s.heap.push (seqObj "list" #[] 0)).update s.heap.objs.size (Obj.mapSeq fun x => x ++ vs.toArray)).objs.size = s.heap.objs.size + 1 := by rw [Heap.size_update, size_push']
  have hoL : ((((s.heap.push (seqObj "list" #[] 0)).update s.heap.objs.size (Obj.mapSeq fun x => x ++ vs.toArray)).push (seqObj "list" vs.toArray 0)).get? (s.heap.objs.size + 1)) = some (seqObj "list" vs.toArray 0) := by
    rw [← hsz]; exact Heap.get?_push_size _ rfl
  have keep : ∀ b o, s.heap.get? b = some o → (((s.heap.push (seqObj "list" #[] 0)).update s.heap.objs.size (Obj.mapSeq fun x => x ++ vs.toArray)).push (seqObj "list" vs.toArray 0)).get? b = some o := fun b o h =>
    Heap.get?_push_of_some _ (Heap.get?_update_of_ne _ (Nat.ne_of_gt (Heap.lt_size h)) (Heap.get?_push_of_some _ h))
  show wpAny _ _ (holding [.ref ((s.heap.push (seqObj "list" #[] 0)).update s.heap.objs.size (Obj.mapSeq fun x => x ++ vs.toArray)).objs.size] (call (.builtin "list.sort") [.ref ((s.heap.push (seqObj "list" #[] 0)).update s.heap.objs.size (Obj.mapSeq fun x => x ++ vs.toArray)).objs.size]) >>= fun _ => ret (.ref ((s.heap.push (seqObj "list" #[] 0)).update s.heap.objs.size (Obj.mapSeq fun x => x ++ vs.toArray)).objs.size)) _ _ _
  rw [hsz]
  refine wpAny_bind (wpAny_holding (wpAny_call_entry slot_list_sort ⟨_, hoL, rfl⟩ entry_list_sort ?_ (args_list_sort _)))
  refine w_sort hoL hk h2 h64 (fun s' hk' => hK _ s' fun b o h => hk' b o (Nat.ne_of_lt (Nat.lt_of_lt_of_le (Heap.lt_size h) (Nat.le_succ _))) (keep b o h)) fun st' p1 p3 => ?_
  exact ⟨_, rfl, wpAny_pure ⟨_, rfl, q st' p1 p3⟩⟩
end
end L2

set_option Elab.async false
set_option linter.all false
set_option maxRecDepth 100000
/-! MY LAYER, 23: the order of tuples of ints and texts; sorted of such -/
namespace L2
open PySem PySem.Spec PyProof.Rows
/-- ints, then texts -/
def kLt : Key → Key → Bool
  | .inl i, .inl j => decide (i < j)
  | .inr x, .inr y => decide (x.cps.toList < y.cps.toList)
  | .inl _, .inr _ => true
  | .inr _, .inl _ => false
theorem kLt_irrefl : ∀ a : Key, kLt a a = false
  | .inl i => decide_eq_false (by omega)
  | .inr x => decide_eq_false (List.lt_irrefl _)
theorem kLt_trans : ∀ a b c : Key, kLt a b = true → kLt b c = true → kLt a c = true
  | .inl i, .inl j, .inl k, h1, h2 => by have := of_decide_eq_true h1; have := of_decide_eq_true h2; exact decide_eq_true (by omega)
  | .inr x, .inr y, .inr z, h1, h2 => decide_eq_true (List.lt_trans (of_decide_eq_true h1) (of_decide_eq_true h2))
  | .inl _, .inl _, .inr _, _, _ => rfl
  | .inl _, .inr _, .inr _, _, _ => rfl
  | .inl _, .inr _, .inl _, _, h => by cases h
  | .inr _, .inl _, _, h, _ => by cases h
  | .inr _, .inr _, .inl _, _, h => by cases h
theorem kLt_total : ∀ a b : Key, kLt a b = false → kLt b a = false → a = b
  | .inl i, .inl j, h1, h2 => by have := of_decide_eq_false h1; have := of_decide_eq_false h2; congr 1; omega
  | .inr x, .inr y, h1, h2 => by
    have a1 : ¬ x.cps.toList < y.cps.toList := of_decide_eq_false h1
    have a2 : ¬ y.cps.toList < x.cps.toList := of_decide_eq_false h2
    have e : x.cps.toList = y.cps.toList := List.le_antisymm a2 a1
    obtain ⟨xs⟩ := x
    obtain ⟨ys⟩ := y
    congr 2
    exact Array.toList_inj.mp e
  | .inl _, .inr _, h, _ => by cases h
  | .inr _, .inl _, _, h => by cases h
def lexB : List Key → List Key → Bool
  | [], [] => false
  | [], _ :: _ => true
  | _ :: _, [] => false
  | x :: xs, y :: ys => if x = y then lexB xs ys else kLt x y
theorem lexB_cons (x y : Key) (xs ys : List Key) : lexB (x :: xs) (y :: ys) = if x = y then lexB xs ys else kLt x y := rfl
theorem lexB_irrefl : ∀ a : List Key, lexB a a = false
  | [] => rfl
  | x :: r => by unfold lexB; rw [if_pos rfl]; exact lexB_irrefl r
theorem lexB_trans : ∀ a b c : List Key, lexB a b = true → lexB b c = true → lexB a c = true
  | [], [], _, h, _ => by cases h
  | [], _ :: _, [], _, h => by cases h
  | [], _ :: _, _ :: _, _, _ => rfl
  | _ :: _, [], _, h, _ => by cases h
  | _ :: _, _ :: _, [], _, h => by cases h
  | x :: r, y :: s, z :: t, h1, h2 => by
    have ih := lexB_trans r s t
    unfold lexB at h1 h2 ⊢
    by_cases e1 : x = y
    · rw [if_pos e1] at h1
      by_cases e2 : y = z
      · rw [if_pos e2] at h2
        rw [if_pos (e1.trans e2)]
        exact ih h1 h2
      · rw [if_neg e2] at h2
        rw [if_neg (fun e => e2 (e1.symm.trans e)), e1]
        exact h2
    · rw [if_neg e1] at h1
      by_cases e2 : y = z
      · rw [if_neg (fun e => e1 (e.trans e2.symm)), ← e2]
        exact h1
      · rw [if_neg e2] at h2
        have h3 := kLt_trans _ _ _ h1 h2
        rw [if_neg (fun e => by rw [e, kLt_irrefl] at h3; cases h3)]
        exact h3
theorem lexB_total : ∀ a b : List Key, lexB a b = false → lexB b a = false → a = b
  | [], [], _, _ => rfl
  | [], _ :: _, h, _ => by cases h
  | _ :: _, [], _, h => by cases h
  | x :: r, y :: s, h1, h2 => by
    unfold lexB at h1 h2
    by_cases e : x = y
    · rw [if_pos e] at h1
      rw [if_pos e.symm] at h2
      rw [e, lexB_total r s h1 h2]
    · rw [if_neg e] at h1
      rw [if_neg fun z => e z.symm] at h2
      exact absurd (kLt_total _ _ h1 h2) e
theorem lexB_neg (a b c : List Key) (h : lexB a c = true) : lexB a b = true ∨ lexB b c = true := by
  by_cases h1 : lexB a b = true
  · exact .inl h1
  · by_cases h2 : lexB b a = true
    · exact .inr (lexB_trans _ _ _ h2 h)
    · have e := lexB_total a b (by simpa using h1) (by simpa using h2)
      rw [← e]; exact .inr h
def unV : V → Option Key
  | .int i => some (.inl i)
  | .str x => some (.inr x)
  | _ => none
def keysV : List V → Option (List Key)
  | [] => some []
  | x :: r => (unV x).bind fun k => (keysV r).map (k :: ·)
theorem unV_kV (k : Key) : unV (kV k) = some k := by cases k <;> rfl
theorem keysV_kV : ∀ ks : List Key, keysV (ks.map kV) = some ks
  | [] => rfl
  | k :: r => by show (unV (kV k)).bind _ = _; rw [unV_kV, keysV_kV r]; rfl
theorem unV_eq : ∀ {x : V} {k : Key}, unV x = some k → x = kV k
  | .int i, k, h => by cases h; rfl
  | .str z, k, h => by cases h; rfl
  | .non, _, h => by cases h
  | .bl _, _, h => by cases h
  | .byt _, _, h => by cases h
  | .flt _, _, h => by cases h
  | .ref _, _, h => by cases h
  | .ty _, _, h => by cases h
theorem keysV_eq : ∀ {xs : List V} {ks : List Key}, keysV xs = some ks → xs = ks.map kV
  | [], ks, h => by cases h; rfl
  | x :: r, ks, h => by
    unfold keysV at h
    cases hu : unV x with
    | none => rw [hu] at h; cases h
    | some k =>
      rw [hu] at h
      cases hr : keysV r with
      | none => rw [hr] at h; cases h
      | some ms => rw [hr] at h; cases h; rw [unV_eq hu, keysV_eq hr]; rfl
/-- which of them are ints -/
def shape (ks : List Key) : List Bool := ks.map fun k => k.isLeft
def tupOf (H : Hp) (sh : List Bool) : Value → Option (List Key)
  | .ref a => match H a with
    | some (.tup xs) => (keysV xs).bind fun ks => if shape ks = sh then some ks else none
    | _ => none
  | _ => none
theorem tupOf_at {H : Hp} {a : Addr} {ks : List Key} (h : H a = some (.tup (ks.map kV))) : tupOf H (shape ks) (.ref a) = some ks := by
  unfold tupOf
  dsimp only
  rw [h]
  show (keysV (ks.map kV)).bind _ = _
  rw [keysV_kV]
  show (if shape ks = shape ks then some ks else none) = _
  rw [if_pos rfl]
theorem tupOf_eq {H : Hp} {sh : List Bool} {v : Value} {ks : List Key} (h : tupOf H sh v = some ks) : ∃ a, v = .ref a ∧ H a = some (.tup (ks.map kV)) ∧ shape ks = sh := by
  unfold tupOf at h
  split at h
  · rename_i a
    split at h
    · rename_i xs hx
      cases hk : keysV xs with
      | none => rw [hk] at h; cases h
      | some ms =>
        rw [hk] at h
        have h' : (if shape ms = sh then some ms else none) = some ks := h
        by_cases e : shape ms = sh
        · rw [if_pos e] at h'
          cases h'
          exact ⟨a, rfl, by rw [hx, keysV_eq hk], e⟩
        · rw [if_neg e] at h'; cases h'
    · cases h
  · cases h
def tupKind (H : Hp) (sh : List Bool) : PyProof.Rows.KeyKind := ⟨⟨List Key, lexB, lexB_irrefl, lexB_trans, fun a b c h => lexB_neg a b c h, lexB_total⟩, tupOf H sh, []⟩
section
variable {prog : Program} {w : World} {A : Around} {E : Value → Shared → Prop} {s : Shared}
theorem eq_key {k m : Key} {p q : Value} (hp : RelV (kV k) p) (hq : RelV (kV m) q) (hs : k.isLeft = m.isLeft) {Q : Bool → Shared → Prop} (h : Q (decide (k = m)) s) : wpAny (model prog w) A (eqBool p q) Q E s := by
  cases k with
  | inl i =>
    cases m with
    | inl j =>
      obtain ⟨t, rfl⟩ := hp
      obtain ⟨u, rfl⟩ := hq
      refine wpAny_eqBool_int ?_
      have e : (i == j) = decide ((Sum.inl i : Key) = Sum.inl j) := by
        by_cases z : i = j
        · rw [z]; simp
        · rw [decide_eq_false (fun e => z (Sum.inl.inj e))]; simpa using z
      rw [e]; exact h
    | inr y => cases hs
  | inr x =>
    cases m with
    | inl j => cases hs
    | inr y =>
      obtain ⟨t, rfl⟩ := hp
      obtain ⟨u, rfl⟩ := hq
      refine wpAny_eqBool_str ?_
      have e : decide (x = y) = decide ((Sum.inr x : Key) = Sum.inr y) := decide_eq_decide.mpr ⟨fun z => by rw [z], fun z => Sum.inr.inj z⟩
      rw [e]; exact h
theorem lt_key {c : Bool} {k m : Key} {p q : Value} (hp : RelV (kV k) p) (hq : RelV (kV m) q) (hs : k.isLeft = m.isLeft) {Q : Bool → Shared → Prop} (h : Q (kLt k m) s) : wpAny (model prog w) A (oneLt' c p q) Q E s := by
  cases k with
  | inl i =>
    cases m with
    | inl j =>
      obtain ⟨t, rfl⟩ := hp
      obtain ⟨u, rfl⟩ := hq
      cases c with
      | true => exact oneLt_int h
      | false =>
        rw [oneLt'_eq]
        show wpAny _ _ (richCompare .Lt (.int i t) (.int j u) >>= _) _ _ _
        refine wpAny_bind (show wpAny (model prog w) A (compareOp .Lt (.int i t) (.int j u)) _ _ _ from PyProof.Rows.lt_int ?_)
        exact wpAny_pure h
    | inr y => cases hs
  | inr x =>
    cases m with
    | inl j => cases hs
    | inr y =>
      obtain ⟨t, rfl⟩ := hp
      obtain ⟨u, rfl⟩ := hq
      cases c with
      | true => exact oneLt_str h
      | false =>
        rw [oneLt'_eq]
        show wpAny _ _ (richCompare .Lt (.str x t) (.str y u) >>= _) _ _ _
        refine wpAny_bind (show wpAny (model prog w) A (compareOp .Lt (.str x t) (.str y u)) _ _ _ from PyProof.Rows.lt_str ?_)
        exact wpAny_pure h
/-- the order of two tuples as sorting asks it -/
theorem lt_tup {b : Bool} {x y : Addr} {ks ms : List Key} {its its2 : List Value} (hx : IsTup s.heap x its.toArray) (hy : IsTup s.heap y its2.toArray) (rx : Vals (ks.map kV) its) (ry : Vals (ms.map kV) its2) (hs : shape ks = shape ms) {Q : Bool → Shared → Prop}
    (h : Q (lexB ks ms) s) : wpAny (model prog w) A (keyLt' (tuples' b) (.ref x) (.ref y)) Q E s := by
  obtain ⟨o1, ho1, _, n1, hd1⟩ := hx
  obtain ⟨o2, ho2, _, n2, hd2⟩ := hy
  show wpAny _ _ (Builtin.List.listItems (.ref x) >>= _) _ _ _
  refine wpAny_bind (listItems_at ho1 hd1 (wpAny_bind (listItems_at ho2 hd2 (wpAny_bind ?_))))
  have hl1 := rx.length
  have hl2 := ry.length
  have hl3 : ks.length = ms.length := by have := congrArg List.length hs; simpa [shape] using this
  rw [List.length_map] at hl1 hl2
  refine wpAny_forIn_list _ (fun rest c s' => c = (none, ()) ∧ s' = s ∧ ∃ (vs ws : List Value) (k : Nat) (ks' ms' : List Key), rest = (vs.zip ws).zipIdx k ∧ Vals (ks'.map kV) vs ∧ Vals (ms'.map kV) ws ∧ shape ks' = shape ms' ∧ lexB ks ms = lexB ks' ms') _ ?_ ?_ _ _ ⟨rfl, rfl, its, its2, 0, ks, ms, by simp, rx, ry, hs, rfl⟩
  · rintro ⟨⟨p, q⟩, i⟩ rest c s' ⟨rfl, rfl, vs, ws, k, ks', ms', hz, rv, rw', hs', he⟩
    cases ks' with
    | nil => cases rv; cases hz
    | cons k1 kr =>
      cases ms' with
      | nil => cases hs'
      | cons m1 mr =>
        cases rv with
        | cons r1 rr =>
          cases rw' with
          | cons r1' rr' =>
            rw [List.zip_cons_cons, List.zipIdx_cons] at hz
            injection hz with h1 h2
            injection h1 with h3 h4
            injection h3 with h5 h6
            subst h4 h5 h6
            unfold shape at hs'
            rw [List.map_cons, List.map_cons] at hs'
            injection hs' with s1 s2
            refine wpAny_bind (eq_key r1 r1' s1 ?_)
            rw [lexB_cons] at he
            by_cases e : k1 = m1
            · rw [if_pos e] at he
              rw [decide_eq_true e]
              exact wpAny_pure ⟨rfl, rfl, _, _, _, kr, mr, h2, rr, rr', s2, he⟩
            · rw [if_neg e] at he
              rw [decide_eq_false e]
              refine wpAny_bind (lt_key r1 r1' s1 (wpAny_pure ?_))
              refine wpAny_pure ?_
              rw [← he]; exact h
  · rintro c s' ⟨rfl, rfl, vs, ws, k, ks', ms', hz, rv, rw', hs', he⟩
    refine wpAny_pure ?_
    have e : lexB ks' ms' = false := by
      cases ks' with
      | nil =>
        cases ms' with
        | nil => rfl
        | cons _ _ => cases hs'
      | cons k1 kr =>
        cases ms' with
        | nil => cases hs'
        | cons m1 mr =>
          cases rv with
          | cons r1 rr =>
            cases rw' with
            | cons r1' rr' => rw [List.zip_cons_cons, List.zipIdx_cons] at hz; cases hz
    rw [e] at he
    rw [he] at h
    have e2 : decide (its.toArray.size < its2.toArray.size) = false := decide_eq_false (by rw [List.size_toArray, List.size_toArray]; omega)
    rw [e2]; exact h
end
end L2

set_option Elab.async false
set_option linter.all false
set_option maxRecDepth 100000
/-! MY LAYER, 24: sorted(xs) of a list of tuples of ints and texts, fewer than 64 -/
namespace L2
open PySem PySem.Spec PyProof.Rows
section
variable {prog : Program} {w : World} {A : Around} {E : Value → Shared → Prop} {s : Shared}
theorem w_mapM {M : Model} {α β : Type} {f : α → Sem β} (R : α → β → Prop) : ∀ (l : List α) {Q : List β → Shared → Prop}, (∀ v ∈ l, ∃ r, R v r ∧ ∀ (Q' : β → Shared → Prop), Q' r s → wpAny M A (f v) Q' E s) → (∀ rs, rs.length = l.length → (∀ r ∈ rs, ∃ v ∈ l, R v r) → Q rs s) → wpAny M A (List.mapM f l) Q E s
  | [], Q, _, q => by rw [List.mapM_nil]; exact wpAny_pure (q [] rfl (fun r h => by cases h))
  | a :: l, Q, h, q => by
    rw [List.mapM_cons]
    obtain ⟨r, hr, hw⟩ := h a (by simp)
    refine wpAny_bind (hw _ (wpAny_bind (w_mapM R l (fun v hv => h v (List.mem_cons_of_mem _ hv)) fun rs hl hrs => wpAny_pure (q (r :: rs) (by simp [hl]) fun z hz => ?_))))
    rcases List.mem_cons.mp hz with rfl | hz
    · exact ⟨a, by simp, hr⟩
    · obtain ⟨v, hv, hR⟩ := hrs z hz
      exact ⟨v, List.mem_cons_of_mem _ hv, hR⟩
theorem w_mapA {M : Model} {α β : Type} {f : α → Sem β} (R : α → β → Prop) (l : Array α) {Q : Array β → Shared → Prop} (h : ∀ v ∈ l.toList, ∃ r, R v r ∧ ∀ (Q' : β → Shared → Prop), Q' r s → wpAny M A (f v) Q' E s) (q : ∀ rs : Array β, (∀ r ∈ rs.toList, ∃ v ∈ l.toList, R v r) → Q rs s) : wpAny M A (Array.mapM f l) Q E s := by
  rw [Array.mapM_eq_mapM_toList, map_eq_pure_bind]
  exact wpAny_bind (w_mapM R l.toList h fun rs _ hr => wpAny_pure (q rs.toArray (by simpa using hr)))
theorem first_tup {a : Addr} {its : List Value} (ht : IsTup s.heap a its.toArray) {Q : Option Value → Shared → Prop} (q : Q its[0]? s) : wpAny (model prog w) A (firstOfTuple' (.ref a)) Q E s := by
  obtain ⟨o, ho, hc, n, hd⟩ := id ht
  show wpAny _ _ (typeOf (.ref a) >>= _) _ _ _
  refine wpAny_bind (wpAny_typeOf ht.typeIs ?_)
  rw [if_neg (by decide)]
  refine wpAny_bind (listItems_at ho hd (wpAny_pure ?_))
  simpa using q
theorem type_key {k : Key} {v : Value} (h : RelV (kV k) v) {Q : Value → Shared → Prop} (q : Q (.type (if k.isLeft then "int" else "str")) s) : wpAny (model prog w) A (typeOf v) Q E s := by
  cases k with
  | inl i => obtain ⟨t, rfl⟩ := h; exact wpAny_typeOf (T := "int") rfl q
  | inr x => obtain ⟨t, rfl⟩ := h; exact wpAny_typeOf (T := "str") rfl q
/-- what kind the sort finds -/
theorem kind_tup {vs : List Value} (h : ∀ v ∈ vs, ∃ (a : Addr) (its : List Value) (k : Key) (v0 : Value), v = .ref a ∧ IsTup s.heap a its.toArray ∧ its[0]? = some v0 ∧ RelV (kV k) v0) {Q : SortKind → Shared → Prop} (q : ∀ b, Q (tuples' b) s) : wpAny (model prog w) A (keyKind' vs.toArray) Q E s := by
  rw [keyKind'_eq]
  refine wpAny_bind (w_mapA (fun _ r => ∃ (k : Key) (v0 : Value), r = some v0 ∧ RelV (kV k) v0) _ (fun v hv => ?_) fun firsts hf => ?_)
  · obtain ⟨a, its, k, v0, rfl, ht, h0, hr⟩ := h v (by simpa using hv)
    exact ⟨its[0]?, ⟨k, v0, h0, hr⟩, fun Q' q' => first_tup ht q'⟩
  · have hall : (firsts.all fun x => x.isSome) = true := by
      rw [Array.all_eq_true]
      intro i hi
      obtain ⟨v, _, k, v0, e, _⟩ := hf firsts[i] (by simp)
      rw [e]; rfl
    rw [if_pos hall]
    refine wpAny_bind (wpAny_rule (wpAny_bind ?_))
    rw [oneTypeOnly'_eq]
    refine wpAny_bind (w_mapA (fun _ _ => True) _ (fun v hv => ?_) fun ts _ => ?_)
    · have hv' : v ∈ (Array.filterMap id firsts).toList := hv
      rw [Array.toList_filterMap] at hv'
      obtain ⟨o, ho, eo⟩ := List.mem_filterMap.mp hv'
      obtain ⟨_, _, k, v0, e, hr⟩ := hf o ho
      have e2 : v0 = v := by
        have : o = some v := eo
        rw [e] at this; exact Option.some.inj this
      subst e2
      exact ⟨_, trivial, fun Q' q' => type_key hr q'⟩
    · split
      · exact wpAny_pure (wpAny_pure (q _))
      · exact wpAny_pure (wpAny_pure (q _))
/-- lists of fewer than two -/
theorem w_sort0 {a : Addr} {vs : List Value} {n : Nat} {P : PySem.Fin → Shared → Prop} (ha : s.heap.get? a = some (seqObj "list" vs.toArray n)) (h2 : vs.length < 2)
    (q : P (Fin.done (Flow.ret Value.none)) { s with heap := sortedHeap s.heap a vs ((pairsOf vs).map fun x => x.snd) }) :
    wpAny (model prog w) A (Builtin.«list.sort» { pos := [.ref a] }) P E s := by
  have hz : vs.toArray.size ≤ sizeLine := by rw [List.size_toArray, sizeLine_eq]; omega
  rw [list_sort_plain]
  refine wpAny_bind (listItems_at ha rfl ?_)
  show wpAny _ _ (updateSeq a (fun x => #[]) >>= _) _ _ _
  refine wpAny_bind (wpAny_updateSeq ha rfl ?_ hz (by show 0 ≤ _; omega))
  have e1 := get?_update_seq ha (fun _ => #[])
  refine wpAny_bind (seqEpoch_at e1 rfl ?_)
  refine wpAny_bind (wpAny_newTuple ?_ (by simpa using hz))
  refine wpAny_bind (wpAny_newList ?_ (by show 0 ≤ _; omega))
  refine wpAny_holding ?_
  have hn2 : vs.toArray.size < 2 := by rw [List.size_toArray]; omega
  have hps : (pairsOf vs).size = vs.length := by unfold pairsOf; simp
  rw [if_pos hn2, if_pos hn2]
  have e2 : (((s.heap.update a (Obj.mapSeq fun _ => #[])).push { cls := .type "tuple", data := .seq vs.toArray.toList.toArray }).push { cls := .type "list", data := .seq ([] : List Value).toArray }).get? a = some (seqObj "list" #[] _) := Heap.get?_push_of_some _ (Heap.get?_push_of_some _ e1)
  refine wpAny_bind (wpAny_pure ?_)
  show wpAny _ _ (pure ((), SortSt.mk' general' (vs.toArray.zip vs.toArray) #[] 7 none) >>= _) _ _ _
  refine wpAny_bind (wpAny_pure ?_)
  refine wpAny_bind (seqEpoch_at e2 rfl ?_)
  have hsz : ((pairsOf vs).map fun x => x.snd).size = vs.length := by rw [Array.size_map, hps]
  show wpAny _ _ (updateSeq a (fun x => (pairsOf vs).map fun x => x.snd) >>= _) _ _ _
  refine wpAny_bind (wpAny_updateSeq e2 rfl ?_ (by show 0 ≤ _; omega) (by show ((pairsOf vs).map fun x => x.snd).size ≤ _; rw [hsz]; rw [List.size_toArray] at hz; omega))
  show wpAny _ _ (if _ then _ else _) _ _ _
  rw [if_neg (by simp)]
  exact wpAny_pure q
theorem w_sorted0 {l : Addr} {vs : List Value} {Q : Value → Shared → Prop} (hl : s.heap.IsList l vs.toArray) (h2 : vs.length < 2)
    (q : Q (.ref (s.heap.objs.size + 1)) { s with heap := sortedAll s.heap vs ((pairsOf vs).map fun x => x.snd) }) :
    wpAny (model prog w) A (call (.builtin "sorted") [.ref l]) Q E s := by
  refine Calls.call_function_entry kind_sorted plain_sorted entry_sorted (args_sorted1 (.ref l)) ?_
  have hz : vs.length ≤ sizeLine := by rw [sizeLine_eq]; omega
  refine wpAny_bind (wpAny_pure (wpAny_bind (collect_list hl (wpAny_bind (wpAny_newList ?_ hz)) hz)))
  have hsz : ((s.heap.push (seqObj "list" #[] 0)).update s.heap.objs.size (Obj.mapSeq fun x => x ++ vs.toArray)).objs.size = s.heap.objs.size + 1 := by rw [Heap.size_update, size_push']
  have hoL : ((((s.heap.push (seqObj "list" #[] 0)).update s.heap.objs.size (Obj.mapSeq fun x => x ++ vs.toArray)).push (seqObj "list" vs.toArray 0)).get? (s.heap.objs.size + 1)) = some (seqObj "list" vs.toArray 0) := by
    rw [← hsz]; exact Heap.get?_push_size _ rfl
  show wpAny _ _ (holding [.ref ((s.heap.push (seqObj "list" #[] 0)).update s.heap.objs.size (Obj.mapSeq fun x => x ++ vs.toArray)).objs.size] (call (.builtin "list.sort") [.ref ((s.heap.push (seqObj "list" #[] 0)).update s.heap.objs.size (Obj.mapSeq fun x => x ++ vs.toArray)).objs.size]) >>= fun _ => ret (.ref ((s.heap.push (seqObj "list" #[] 0)).update s.heap.objs.size (Obj.mapSeq fun x => x ++ vs.toArray)).objs.size)) _ _ _
  rw [hsz]
  refine wpAny_bind (wpAny_holding (wpAny_call_entry slot_list_sort ⟨_, hoL, rfl⟩ entry_list_sort ?_ (args_list_sort _)))
  exact w_sort0 hoL h2 ⟨_, rfl, wpAny_pure ⟨_, rfl, q⟩⟩
end
end L2

set_option Elab.async false
set_option linter.all false
set_option maxRecDepth 100000
/-! MY LAYER, 25: the rule for sorted(xs) of tuples -/
namespace L2
open PySem PySem.Spec PyProof.Rows
theorem perm_map {α β : Type} (f : α → β) {l m : List β} (h : l.Perm m) : ∀ ts : List α, m = ts.map f → ∃ ts' : List α, ts'.Perm ts ∧ l = ts'.map f := by
  induction h with
  | nil =>
    intro ts e
    have : ts = [] := by cases ts with
      | nil => rfl
      | cons _ _ => cases e
    subst this
    exact ⟨[], .nil, rfl⟩
  | cons x _ ih =>
    intro ts e
    cases ts with
    | nil => cases e
    | cons a r =>
      rw [List.map_cons] at e
      injection e with e1 e2
      obtain ⟨ts', p, e3⟩ := ih r e2
      exact ⟨a :: ts', p.cons a, by rw [List.map_cons, e1, e3]⟩
  | swap x y l =>
    intro ts e
    cases ts with
    | nil => cases e
    | cons a r =>
      cases r with
      | nil => cases e
      | cons b r =>
        rw [List.map_cons, List.map_cons] at e
        injection e with e1 e2
        injection e2 with e2 e3
        exact ⟨b :: a :: r, .swap a b r, by rw [List.map_cons, List.map_cons, e1, e2, e3]⟩
  | trans _ _ ih1 ih2 =>
    intro ts e
    obtain ⟨ts2, p2, e2⟩ := ih2 ts e
    obtain ⟨ts1, p1, e1⟩ := ih1 ts2 e2
    exact ⟨ts1, p1.trans p2, e1⟩
theorem zip_self {α : Type} : ∀ l : List α, l.zip l = l.map fun v => (v, v)
  | [] => rfl
  | a :: r => by rw [List.zip_cons_cons, zip_self r]; rfl
/-- tuples of keys at addresses -/
abbrev TupL := List (Addr × List Key)
def refs (ts : TupL) : List V := ts.map fun t => V.ref t.1
def AtT (H : Hp) (ts : TupL) : Prop := ∀ t ∈ ts, H t.1 = some (.tup (t.2.map kV))
theorem vals_refs : ∀ {ts : TupL} {us : List Value}, Vals (refs ts) us → us = ts.map fun t => Value.ref t.1
  | [], _, h => by cases h; rfl
  | t :: r, _, h => by
    cases h with
    | cons a b => rw [vals_refs b]; cases a; rfl
theorem refs_vals : ∀ ts : TupL, Vals (refs ts) (ts.map fun t => Value.ref t.1)
  | [] => .nil
  | t :: r => .cons rfl (refs_vals r)
def rSrtT (K : PySem.W.Frag) : List V → Hp → VK → Prop := fun xs H Q => ∃ (p : Addr) (ts : TupL) (sh : List Bool), xs = [.ref p] ∧ SqL K H p (refs ts) ∧ AtT H ts ∧ sh ≠ [] ∧ (∀ t ∈ ts, shape t.2 = sh) ∧ ts.length < 64 ∧
  ∀ (l : Addr) (ts' : TupL), H l = none → ts'.Perm ts → ts'.Pairwise (fun a b => lexB b.2 a.2 = false) → Q (.ref l) (upd H l (.lst (refs ts')))
theorem call_sortedT {X : Cx} : CallR X (.builtin "sorted") (rSrtT X.K) := by
  intro pins s σ H xs us Q I r h
  obtain ⟨p, ts, sh, rfl, hq, hat, hsh, hts, h64, q⟩ := h
  obtain ⟨u, rfl, rx⟩ := vals1 r
  cases rx
  obtain ⟨its, rv, pl, hz⟩ := I.list hq
  have ei := vals_refs rv
  subst ei
  have tupAt : ∀ t ∈ ts, ∃ its : List Value, Vals (t.2.map kV) its ∧ IsTup s.heap t.1 its.toArray := fun t ht => by
    obtain ⟨i, v, q, _⟩ := I.tuple (SqT.of (K := X.K) (hat t ht))
    exact ⟨i, v, q⟩
  have eptl : (pairsOf (ts.map fun t => Value.ref t.1)).toList = ts.map fun t => (Value.ref t.1, Value.ref t.1) := by
    unfold pairsOf
    rw [Array.toList_zip, zip_self, List.map_map]
    rfl
  have fin : ∀ (out : Array Value) (ts' : TupL), ts'.Perm ts → ts'.Pairwise (fun a b => lexB b.2 a.2 = false) → out.toList = ts'.map (fun t => Value.ref t.1) → EP X pins σ Q (.ref (s.heap.objs.size + 1)) { s with heap := sortedAll s.heap (ts.map fun t => Value.ref t.1) out } := fun out ts' pm pw eo => by
    obtain ⟨e, he⟩ := sortedAll_at s.heap (ts.map fun t => Value.ref t.1) out
    refine ⟨.ref (s.heap.objs.size + 1), _, I.laid (t' := s.toks) (o := .lst (refs ts')) (fun _ _ => sortedAll_old) (Nat.le_succ _) ⟨?_, out.toList, e, by rw [eo]; exact refs_vals ts', by simpa using he⟩, rfl, q _ ts' (I.hok.fresh (Nat.le_succ _)) pm pw⟩
    unfold refs
    rw [List.length_map, pm.length_eq, sizeLine_eq]; omega
  by_cases h2 : ts.length < 2
  · refine w_sorted0 pl.isList (by rw [List.length_map]; exact h2) (fin _ ts (.refl _) ?_ ?_)
    · cases ts with
      | nil => exact .nil
      | cons t r =>
        have : r = [] := List.eq_nil_of_length_eq_zero (by rw [List.length_cons] at h2; omega)
        subst this
        exact List.pairwise_singleton _ _
    · rw [Array.toList_map, eptl, List.map_map]; rfl
  · have hk : PyProof.Rows.KeysOf (tupKind H sh) (pairsOf (ts.map fun t => Value.ref t.1)) := fun z hz' => by
      rw [eptl] at hz'
      obtain ⟨t, ht, rfl⟩ := List.mem_map.mp hz'
      exact ⟨t.2, by rw [← hts t ht]; exact tupOf_at (hat t ht)⟩
    refine w_sorted (κ := tupKind H sh) pl.isList hk (by rw [List.length_map]; omega) (by rw [List.length_map]; exact h64) (fun A' s' kp E' Q' q' => ?_) fun st' p1 p3 => ?_
    · have tup' : ∀ {a : Addr} {its : List Value}, IsTup s.heap a its.toArray → IsTup s'.heap a its.toArray := fun ⟨o, ho, hc⟩ => ⟨o, kp _ _ ho, hc⟩
      refine kind_tup (fun v hv => ?_) fun b => q' _ fun E2 x y a c Q2 hx hy h2 => ?_
      · obtain ⟨t, ht, rfl⟩ := List.mem_map.mp hv
        obtain ⟨i, v, qt⟩ := tupAt t ht
        have hs1 := hts t ht
        cases hk2 : t.2 with
        | nil => rw [hk2] at hs1; exact absurd hs1.symm hsh
        | cons k kr =>
          rw [hk2] at v
          cases v with
          | cons r1 rr => exact ⟨t.1, _, k, _, rfl, tup' qt, rfl, r1⟩
      · obtain ⟨a1, rfl, ha1, s1⟩ := tupOf_eq hx
        obtain ⟨a2, rfl, ha2, s2⟩ := tupOf_eq hy
        obtain ⟨i1, v1, t1, _⟩ := I.tuple (SqT.of (K := X.K) ha1)
        obtain ⟨i2, v2, t2, _⟩ := I.tuple (SqT.of (K := X.K) ha2)
        exact lt_tup (tup' t1) (tup' t2) v1 v2 (s1.trans s2.symm) h2
    · have p1' := p1.toList
      obtain ⟨ts', pm, e⟩ := perm_map (fun t : Addr × List Key => (Value.ref t.1, Value.ref t.1)) p1' ts eptl
      refine fin _ ts' pm ?_ ?_
      · rw [List.pairwise_iff_getElem]
        intro i j hi hj hij
        have hsz : (pairsOf (ts.map fun t => Value.ref t.1)).size = ts'.length := by rw [← Array.length_toList, eptl, List.length_map, pm.length_eq]
        have := p3 i j (by omega) (by rw [hsz]; exact hj)
        have key : ∀ k (hk' : k < ts'.length), KK (tupKind H sh) (arrOf st') k = ts'[k].2 := fun k hk' => by
          unfold KK
          have e1 : (arrOf st')[k]? = some (Value.ref ts'[k].1, Value.ref ts'[k].1) := by
            rw [← Array.getElem?_toList, e, List.getElem?_map, List.getElem?_eq_getElem hk']; rfl
          rw [e1]
          have hm : ts'[k] ∈ ts := pm.mem_iff.mp (List.getElem_mem hk')
          show ((tupOf H sh (.ref ts'[k].1)).getD _) = _
          rw [← hts _ hm, tupOf_at (hat _ hm)]; rfl
        rw [key i hi, key j hj] at this
        exact this
      · rw [Array.toList_map, e, List.map_map]; rfl
theorem srtT {X : Cx} (K : PySem.W.Frag) (h : X.K = K := by rfl) : CallR X (.builtin "sorted") (rSrtT K) := by subst h; exact call_sortedT
end L2

set_option Elab.async false
set_option linter.all false
set_option maxRecDepth 100000
/-! MY LAYER, 26: t < u of tuples of ints and texts -/
namespace L2
open PySem PySem.Spec PyProof.Rows
theorem eqAt_key (A : Around) (s : Shared) {k m : Key} {p q : Value} (hp : RelV (kV k) p) (hq : RelV (kV m) q) (hs : k.isLeft = m.isLeft) : ∃ e, SeqAt.EqAt A s p q e ∧ (e = true ↔ k = m) := by
  cases k with
  | inl i =>
    cases m with
    | inl j =>
      obtain ⟨t, rfl⟩ := hp
      obtain ⟨u, rfl⟩ := hq
      exact ⟨_, SeqAt.EqAt.int_int i t j u, by simp⟩
    | inr y => cases hs
  | inr x =>
    cases m with
    | inl j => cases hs
    | inr y =>
      obtain ⟨t, rfl⟩ := hp
      obtain ⟨u, rfl⟩ := hq
      exact ⟨_, SeqAt.EqAt.str_str x t y u, by simp⟩
theorem rcLt_key (A : Around) (s : Shared) {k m : Key} {p q : Value} (hp : RelV (kV k) p) (hq : RelV (kV m) q) (hs : k.isLeft = m.isLeft) (prog : Program) (w : World) (E : Value → Shared → Prop) (Q : Value → Shared → Prop) (h : Q (.bool (kLt k m)) s) :
    wpAny (model prog w) A (richCompare .Lt p q) Q E s := by
  cases k with
  | inl i =>
    cases m with
    | inl j =>
      obtain ⟨t, rfl⟩ := hp
      obtain ⟨u, rfl⟩ := hq
      exact (PyProof.Rows.lt_int h : wpAny (model prog w) A (compareOp .Lt (.int i t) (.int j u)) Q E s)
    | inr y => cases hs
  | inr x =>
    cases m with
    | inl j => cases hs
    | inr y =>
      obtain ⟨t, rfl⟩ := hp
      obtain ⟨u, rfl⟩ := hq
      exact (PyProof.Rows.lt_str h : wpAny (model prog w) A (compareOp .Lt (.str x t) (.str y u)) Q E s)
section
open PySem.SeqAt
open PySem.AutoSeq1 (wpAny_loadPart')
open PySem.MeetsSeq PySem.MeetsSeq2 PySem.MeetsSeq3
theorem tuple_lt_keys (l b : Addr) (items items2 : Array Value) (n n2 : Nat) (dd dd2 : Option Addr) (sl sl2 : Array (Option Value)) (ks ms : List Key) (hi : Vals (ks.map kV) items.toList) (hj : Vals (ms.map kV) items2.toList) (hs : shape ks = shape ms) :
    Meets (Builtin.«tuple.__lt__» ⟨[.ref l, .ref b], []⟩)
      (fun _ R s => s.heap.get? l = some { cls := .type "tuple", dict := dd, data := .seq items n, slots := sl } ∧ s.heap.get? b = some { cls := .type "tuple", dict := dd2, data := .seq items2 n2, slots := sl2 } ∧
        R (.ok (.ret (.bool (lexB ks ms)))) s) :=
  .of_wp fun prog w A R s h => by
    obtain ⟨hp, g, d, tk, os⟩ := s; obtain ⟨hl, hb, h⟩ := h
    have f2 := AutoSeq1.sub_tuple_tuple
    have z1 : items.size = ks.length := by have := hi.length; simpa using this.symm
    have z2 : items2.size = ms.length := by have := hj.length; simpa using this.symm
    have z3 : ks.length = ms.length := by have := congrArg List.length hs; simpa [shape] using this
    wp_walk using wpAny_loadPart' hl, wpAny_loadPart' hb, wpAny_forIn_list _ (fun rest b s' => b.1 = none ∧ s' = ⟨hp, g, d, tk, os⟩ ∧ ∃ (vs ws : List Value) (ks' ms' : List Key), rest = vs.zip ws ∧
      Vals (ks'.map kV) vs ∧ Vals (ms'.map kV) ws ∧ shape ks' = shape ms' ∧ R (.ok (.ret (.bool (lexB ks' ms')))) ⟨hp, g, d, tk, os⟩) _
    case turn =>
      rintro ⟨y, x⟩ rest b s' ⟨hb', rfl, vs, ws, ks', ms', hz, hvi, hwi, hsh, hR⟩
      cases ks' with
      | nil => cases hvi; rw [List.zip_nil_left] at hz; cases hz
      | cons k1 kr =>
        cases ms' with
        | nil => cases hsh
        | cons m1 mr =>
          cases hvi with
          | cons r1 rr =>
            cases hwi with
            | cons r1' rr' =>
              rw [List.zip_cons_cons] at hz
              injection hz with hyx hrest
              injection hyx with hy hx
              subst hy hx
              rw [lexB_cons] at hR
              unfold shape at hsh
              rw [List.map_cons, List.map_cons] at hsh
              injection hsh with s1 s2
              obtain ⟨e, he, hiff⟩ := eqAt_key A.in1 ⟨hp, g, d, tk, os⟩ r1 r1' s1
              refine wpAny_bind (he prog w _ _ ?_)
              cases e with
              | true =>
                rw [if_pos (hiff.mp rfl)] at hR
                wp_walk
                exact ⟨rfl, rfl, _, _, _, _, hrest, rr, rr', s2, hR⟩
              | false =>
                rw [if_neg (fun q => absurd (hiff.mpr q) Bool.false_ne_true)] at hR
                have hri := rcLt_key A.in1 ⟨hp, g, d, tk, os⟩ r1 r1' s1 prog w
                wp_walk using hri
                exact ⟨_, rfl, by simpa using hR⟩
    case fin =>
      rintro ⟨b1, b2⟩ s' ⟨hb', rfl, vs, ws, ks', ms', hz, hvi, hwi, hsh, hR⟩
      simp only at hb'
      subst hb'
      have hv : lexB ks' ms' = decide (items.size < items2.size) := by
        rw [decide_eq_false (by omega)]
        cases ks' with
        | nil =>
          cases ms' with
          | nil => rfl
          | cons _ _ => cases hsh
        | cons k1 kr =>
          cases ms' with
          | nil => cases hsh
          | cons m1 mr =>
            cases hvi with
            | cons r1 rr =>
              cases hwi with
              | cons r1' rr' => rw [List.zip_cons_cons] at hz; cases hz
      rw [hv] at hR
      wp_walk
      exact ⟨_, rfl, by simpa [Builtin.Tuple.tupleCompareSizes] using hR⟩
    case h =>
      exact ⟨rfl, rfl, items.toList, items2.toList, ks, ms, rfl, hi, hj, hs, h⟩
end
section
variable {prog : Program} {w : World} {A : Around} {E : Value → Shared → Prop} {s : Shared}
theorem lt_tupKeys {l b : Addr} {items items2 : Array Value} {ks ms : List Key} {Q : Value → Shared → Prop} (hl : IsTup s.heap l items) (hb : IsTup s.heap b items2) (hi : Vals (ks.map kV) items.toList) (hj : Vals (ms.map kV) items2.toList) (hs : shape ks = shape ms)
    (hu : A.units < cLine) (h : Q (.bool (lexB ks ms)) s) : wpAny (model prog w) A (richCompare .Lt (.ref l) (.ref b)) Q E s := by
  obtain ⟨⟨cls, dd, data, sl⟩, ho, hc, n, hd⟩ := id hl
  obtain ⟨⟨cls2, dd2, data2, sl2⟩, ho2, hc2, n2, hd2⟩ := id hb
  simp only at hc hd hc2 hd2
  subst hc hd hc2 hd2
  exact richCompare_meets_room (op := .Lt) ⟨_, ho, rfl⟩ ⟨_, ho2, rfl⟩ PySem.F.slot_tuple_lt PySem.F.entry_tuple_lt (PySem.F.args_tuple_lt_2 _ _) (tuple_lt_keys l b items items2 n n2 dd dd2 sl sl2 ks ms hi hj hs)
    ⟨ho, ho2, show Value.bool (lexB ks ms) ≠ Value.notImplemented ∧ Q (.bool (lexB ks ms)) s from ⟨(fun x => nomatch x), h⟩⟩ hu
end
end L2

set_option Elab.async false
set_option linter.all false
set_option maxRecDepth 100000
/-! MY LAYER, 27: min(xs) of a list of tuples of ints and texts -/
namespace L2
open PySem PySem.Spec PyProof.Rows
section
variable {prog : Program} {w : World}
theorem min_units {A : Around} {a : Args} : (A.under (.builtin "min.loop" a)).units ≤ A.units + 1 := by
  show A.units + (Code.builtin "min.loop" a).cUnits ≤ A.units + 1
  first | exact Nat.le_refl _ | simp [Code.cUnits, Code.frames, Code.isFrame]
theorem min_loop {A : Around} {R : Result → Shared → Prop} {l I S : Addr} {ts : TupL} {sh : List Bool} {h0 : Heap} {kw : List (Str × Value)} (hh : A.handled = none) (hu : A.units + 4 < cLine) (hlist : h0.IsList l (ts.map fun t => Value.ref t.1).toArray)
    (hI : h0.get? I = none) (hS : h0.get? S = none) (hSI : S ≠ I) (htup : ∀ t ∈ ts, ∃ its : List Value, Vals (t.2.map kV) its ∧ IsTup h0 t.1 its.toArray) (hsh : ∀ t ∈ ts, shape t.2 = sh) (s0 : Shared)
    (q : ∀ (h' : Heap) (t : Addr × List Key), (∀ b o, h0.get? b = some o → h'.get? b = some o) → t ∈ ts → (∀ u ∈ ts, lexB u.2 t.2 = false) → R (.ok (.ret (.ref t.1))) { s0 with heap := h' }) :
    ∀ (k j : Nat) (h : Heap) (t : Addr × List Key) (c : Nat), ts.length - j = k → j ≤ ts.length → (∀ b o, h0.get? b = some o → h.get? b = some o) → h.IsListIter I l j → h.get? S = some { cls := .type "list", data := .seq #[.ref t.1, .ref t.1] c } → t ∈ ts →
      (∀ u ∈ ts.take j, lexB u.2 t.2 = false) → codeAny (model prog w) A (.builtin "min.loop" { pos := [.ref I, .none, .ref S], kw := kw }) R { s0 with heap := h }
  | k, j, h, t, c, hk, hj, keep, hit, hst, htm, hbest => by
    refine codeAny_builtin F.entry_min_loop ?_
    show wpAny _ _ (seqItems? (.ref S) >>= _) _ _ _
    refine wpAny_bind (wpAny_seqItems hst rfl ?_)
    have keepL : h.IsList l (ts.map fun t => Value.ref t.1).toArray := by
      obtain ⟨o, ho, r⟩ := hlist
      exact ⟨o, keep _ _ ho, r⟩
    by_cases hlt : j < ts.length
    · have hx : ((ts.map fun t => Value.ref t.1).toArray)[j]? = some (Value.ref ts[j].1) := by simp [hlt]
      refine wpAny_bind (wpAny_tryCatch (wpAny_pyNext_list_item hit keepL hx fun h1 hit1 sb => ?_))
      have keep1 : ∀ b o, h0.get? b = some o → h1.get? b = some o := fun b o hb => by
        have nb : b ≠ I := fun e => by rw [e, hI] at hb; cases hb
        rw [sb.2 b nb]; exact keep b o hb
      have hst1 : h1.get? S = some { cls := .type "list", data := .seq #[.ref t.1, .ref t.1] c } := by rw [sb.2 S hSI]; exact hst
      refine wpAny_bind (wpAny_pure ?_)
      have hjm : ts[j] ∈ ts := List.getElem_mem hlt
      obtain ⟨i1, v1, t1⟩ := htup _ hjm
      obtain ⟨i2, v2, t2⟩ := htup _ htm
      have tup1 : ∀ {a : Addr} {its : List Value}, IsTup h0 a its.toArray → IsTup h1 a its.toArray := fun ⟨o, ho, hc⟩ => ⟨o, keep1 _ _ ho, hc⟩
      have hsh1 : shape ts[j].2 = shape t.2 := (hsh _ hjm).trans (hsh _ htm).symm
      refine wpAny_bind (wpAny_tryCatch (wpAny_holding (wpAny_bind (lt_tupKeys (tup1 t1) (tup1 t2) (by simpa using v1) (by simpa using v2) hsh1 (Nat.lt_of_le_of_lt min_units (by omega)) (wpAny_bind (wpAny_holding (wpAny_truthy_bool (wpAny_bind (wpAny_letGo (wpAny_pure ?_))))))))))
      cases hb : lexB ts[j].2 t.2 with
      | true =>
        refine wpAny_bind (wpAny_updateSeq hst1 rfl ?_ (by show 2 ≤ _; rw [sizeLine_eq]; decide) (by show 2 ≤ _; rw [sizeLine_eq]; decide))
        refine wpAny_bind (wpAny_letGo (wpAny_pure ⟨rfl, ?_⟩))
        refine min_loop hh hu hlist hI hS hSI htup hsh s0 q (k - 1) (j + 1) _ ts[j] c (by omega) (by omega) (fun b o hb' => ?_) ?_ ?_ hjm (fun u hu' => ?_)
        · have nb : S ≠ b := fun e => by rw [← e, hS] at hb'; cases hb'
          exact Heap.get?_update_of_ne _ nb (keep1 b o hb')
        · obtain ⟨o, ho, r⟩ := hit1
          exact ⟨o, Heap.get?_update_of_ne _ hSI ho, r⟩
        · have := get?_update_seq (c := "list") hst1 (fun _ => #[.ref ts[j].1, .ref ts[j].1])
          simpa using this
        · rw [List.take_add_one, List.getElem?_eq_getElem hlt] at hu'
          rcases List.mem_append.mp hu' with hu' | hu'
          · have := hbest u hu'
            cases hz : lexB u.2 ts[j].2 with
            | false => rfl
            | true => rw [lexB_trans _ _ _ hz hb] at this; cases this
          · have : u = ts[j] := by simpa using hu'
            rw [this]; exact lexB_irrefl _
      | false =>
        refine wpAny_bind (wpAny_letGo (wpAny_pure ⟨rfl, ?_⟩))
        refine min_loop hh hu hlist hI hS hSI htup hsh s0 q (k - 1) (j + 1) h1 t c (by omega) (by omega) keep1 hit1 hst1 htm (fun u hu' => ?_)
        rw [List.take_add_one, List.getElem?_eq_getElem hlt] at hu'
        rcases List.mem_append.mp hu' with hu' | hu'
        · exact hbest u hu'
        · have : u = ts[j] := by simpa using hu'
          rw [this]; exact hb
    · have hx : ((ts.map fun t => Value.ref t.1).toArray)[j]? = none := by simp; omega
      refine wpAny_bind (wpAny_tryCatch (wpAny_pyNext_list_end hh hit keepL hx fun h1 eb => ?_))
      have hst1 : h1.get? S = some { cls := .type "list", data := .seq #[.ref t.1, .ref t.1] c } := eb S _ hSI hst
      refine wpAny_bind (wpAny_updateSeq hst1 rfl ?_ (by show 2 ≤ _; rw [sizeLine_eq]; decide) (by show 0 ≤ _; omega))
      refine wpAny_bind (wpAny_letGo (wpAny_pure ?_))
      refine q _ t (fun b o hb => ?_) htm (fun u hu' => hbest u (by rw [List.take_of_length_le (by omega)]; exact hu'))
      have nb : S ≠ b := fun e => by rw [← e, hS] at hb; cases hb
      have nI : b ≠ I := fun e => by rw [e, hI] at hb; cases hb
      exact Heap.get?_update_of_ne _ nb (eb b o nI (keep b o hb))
termination_by k => k
/-- the beginning of the walk -/
theorem min_first {A : Around} {R : Result → Shared → Prop} {l I S : Addr} {ts : TupL} {sh : List Bool} {h0 h : Heap} {c : Nat} {kw : List (Str × Value)} (hh : A.handled = none) (hu : A.units + 4 < cLine) (hlist : h0.IsList l (ts.map fun t => Value.ref t.1).toArray)
    (hI : h0.get? I = none) (hS : h0.get? S = none) (hSI : S ≠ I) (htup : ∀ t ∈ ts, ∃ its : List Value, Vals (t.2.map kV) its ∧ IsTup h0 t.1 its.toArray) (hsh : ∀ t ∈ ts, shape t.2 = sh) (s0 : Shared) (keep : ∀ b o, h0.get? b = some o → h.get? b = some o) (hit : h.IsListIter I l 0) (hst : h.get? S = some { cls := .type "list", data := .seq #[] c })
    (hne : ts ≠ [] ∨ ∃ n d kr, kw = (n, d) :: kr ∧ ∀ h' : Heap, (∀ b o, h0.get? b = some o → h'.get? b = some o) → R (.ok (.ret d)) { s0 with heap := h' })
    (q : ∀ (h' : Heap) (t : Addr × List Key), (∀ b o, h0.get? b = some o → h'.get? b = some o) → t ∈ ts → (∀ u ∈ ts, lexB u.2 t.2 = false) → R (.ok (.ret (.ref t.1))) { s0 with heap := h' }) :
    codeAny (model prog w) A (.builtin "min.loop" { pos := [.ref I, .none, .ref S], kw := kw }) R { s0 with heap := h } := by
  refine codeAny_builtin F.entry_min_loop ?_
  show wpAny _ _ (seqItems? (.ref S) >>= _) _ _ _
  refine wpAny_bind (wpAny_seqItems hst rfl ?_)
  have keepL : h.IsList l (ts.map fun t => Value.ref t.1).toArray := by
    obtain ⟨o, ho, r⟩ := hlist
    exact ⟨o, keep _ _ ho, r⟩
  cases ts with
  | nil =>
    obtain ⟨n, d, kr, rfl, q0⟩ := hne.resolve_left (by simp)
    refine wpAny_bind (wpAny_tryCatch (wpAny_pyNext_list_end hh hit keepL (by simp) fun h1 eb => ?_))
    show wpAny _ _ (rule _ >>= _) _ _ _
    refine wpAny_bind (wpAny_rule (wpAny_pure ?_))
    refine q0 _ fun b o hb => ?_
    have nI : b ≠ I := fun e => by rw [e, hI] at hb; cases hb
    exact eb b o nI (keep b o hb)
  | cons t r =>
    refine wpAny_bind (wpAny_tryCatch (wpAny_pyNext_list_item hit keepL (x := .ref t.1) (by simp) fun h1 hit1 sb => ?_))
    have keep1 : ∀ b o, h0.get? b = some o → h1.get? b = some o := fun b o hb => by
      have nb : b ≠ I := fun e => by rw [e, hI] at hb; cases hb
      rw [sb.2 b nb]; exact keep b o hb
    have hst1 : h1.get? S = some { cls := .type "list", data := .seq #[] c } := by rw [sb.2 S hSI]; exact hst
    refine wpAny_bind (wpAny_pure ?_)
    show wpAny _ _ (updateSeq S _ >>= _) _ _ _
    refine wpAny_bind (wpAny_updateSeq hst1 rfl ?_ (by show 0 ≤ _; omega) (by show 2 ≤ _; rw [sizeLine_eq]; decide))
    refine wpAny_pure ⟨rfl, ?_⟩
    refine min_loop hh hu hlist hI hS hSI htup hsh s0 q _ 1 _ t (c + 1) rfl (by simp) (fun b o hb' => ?_) ?_ ?_ (by simp) (fun u hu' => ?_)
    · have nb : S ≠ b := fun e => by rw [← e, hS] at hb'; cases hb'
      exact Heap.get?_update_of_ne _ nb (keep1 b o hb')
    · obtain ⟨o, ho, r⟩ := hit1
      exact ⟨o, Heap.get?_update_of_ne _ hSI ho, r⟩
    · have := get?_update_seq (c := "list") hst1 (fun _ => #[.ref t.1, .ref t.1])
      simpa using this
    · have : u = t := by simpa using hu'
      rw [this]; exact lexB_irrefl _
end
end L2

set_option Elab.async false
set_option linter.all false
set_option maxRecDepth 100000
/-! MY LAYER, 28: min(xs), min(xs, default=None) of tuples: the rules -/
namespace L2
open PySem PySem.Spec PyProof.Rows
section
variable {X : Cx}
def rMinT (K : PySem.W.Frag) : List V → Hp → VK → Prop := fun vs H Q => ∃ (p : Addr) (ts : TupL) (sh : List Bool), vs = [.ref p] ∧ SqL K H p (refs ts) ∧ AtT H ts ∧ ts ≠ [] ∧ (∀ t ∈ ts, shape t.2 = sh) ∧
  ∀ t : Addr × List Key, t ∈ ts → (∀ u ∈ ts, lexB u.2 t.2 = false) → Q (.ref t.1) H
theorem min_call {prog : Program} {w : World} {A : Around} {R : Result → Shared → Prop} {s : Shared} {l : Addr} {ts : TupL} {sh : List Bool} {kw : List (Str × Value)} {kw2 : List (Str × Value)} (hh : A.handled = none) (hu : A.units + 4 < cLine) (hlist : s.heap.IsList l (ts.map fun t => Value.ref t.1).toArray)
    (hkw : (kw = [] ∧ kw2 = []) ∨ ∃ d, kw = [(Str.ofString "default", d)] ∧ kw2 = [(Str.ofString "default", d)])
    (htup : ∀ t ∈ ts, ∃ its : List Value, Vals (t.2.map kV) its ∧ IsTup s.heap t.1 its.toArray) (hsh : ∀ t ∈ ts, shape t.2 = sh)
    (hne : ts ≠ [] ∨ ∃ n d kr, kw2 = (n, d) :: kr ∧ ∀ h' : Heap, (∀ b o, s.heap.get? b = some o → h'.get? b = some o) → R (.ok (.ret d)) { s with heap := h' })
    (q : ∀ (h' : Heap) (t : Addr × List Key), (∀ b o, s.heap.get? b = some o → h'.get? b = some o) → t ∈ ts → (∀ u ∈ ts, lexB u.2 t.2 = false) → R (.ok (.ret (.ref t.1))) { s with heap := h' }) :
    codeAny (model prog w) A (.call (.builtin "min") { pos := [.ref l], kw := kw }) R s := by
  refine codeAny_call_builtin_at rfl F.entry_min ?_
  have hc : checkBuiltinCall "min" { pos := [.ref l], kw := kw } = pure () := by
    rcases hkw with ⟨rfl, _⟩ | ⟨d, rfl, _⟩ <;> rfl
  rw [hc]
  refine wpAny_pure ?_
  have go : ∀ {A' : Around}, A'.handled = none → wpAny (model prog w) A' (pyIter (.ref l) >>= fun it => newList [] >>= fun b => again (.builtin "min.loop" { pos := [it, .none, b], kw := kw2 })) (fun fin s' => match fin with
      | Fin.done f => R (Except.ok f) s'
      | Fin.again c' => c'.quiet = true ∧ codeAny (model prog w) A c' R s') (fun e s' => R (Except.error e) s') s := fun {A'} hA' => by
    refine wpAny_bind (wpAny_pyIter_list hlist ?_)
    refine wpAny_bind (wpAny_newList ?_ (by show 0 ≤ _; omega))
    refine wpAny_pure ⟨rfl, ?_⟩
    have none_at : ∀ b, s.heap.objs.size ≤ b → s.heap.get? b = none := fun b hb => by
      cases e : s.heap.get? b with
      | none => rfl
      | some o => exact absurd (Heap.lt_size e) (Nat.not_lt.mpr hb)
    have hsz : (s.heap.push { cls := Value.type "list_iterator", data := Data.fields #[Value.ref l, Value.int 0 0] }).objs.size = s.heap.objs.size + 1 := size_push' _ _
    refine min_first (h0 := s.heap) (c := 0) hh hu hlist (none_at _ (Nat.le_refl _)) (none_at _ (by rw [hsz]; exact Nat.le_succ _)) (by rw [hsz]; exact Nat.succ_ne_self _) htup hsh s (fun b o h => Heap.get?_push_of_some _ (Heap.get?_push_of_some _ h)) ⟨_, Heap.get?_push_of_some _ (Heap.get?_push_size _ rfl), rfl, rfl⟩ (Heap.get?_push_size _ rfl) hne q
  rcases hkw with ⟨rfl, rfl⟩ | ⟨d, rfl, rfl⟩
  · exact go hh
  · exact go hh
theorem call_minT (hc : X.calm = true) (hu : X.A.units + 64 < cLine) : CallR X (.builtin "min") (rMinT X.K) := by
  intro pins s σ H vs us Q I r h
  obtain ⟨p, ts, sh, rfl, hq, hat, hne, hsh, q⟩ := h
  obtain ⟨u, rfl, rx⟩ := vals1 r
  cases rx
  obtain ⟨its, rv, pl, hz⟩ := I.list hq
  have ei := vals_refs rv
  subst ei
  refine wpAny_call (min_call (sh := sh) (I.ok.hd hc) (by omega) pl.isList (.inl ⟨rfl, rfl⟩) (fun t ht => ?_) hsh (.inl hne) fun h' t kp ht hmin => ?_)
  · obtain ⟨i, v, q, _⟩ := I.tuple (SqT.of (K := X.K) (hat t ht))
    exact ⟨i, v, q⟩
  · exact ⟨.ref t.1, H, I.kept (t' := s.toks) kp, rfl, q t ht hmin⟩
theorem minT (K : PySem.W.Frag) {k : Nat} (hr : Room k X.A) (hc : X.calm = true := by rfl) (h : X.K = K := by rfl) : CallR X (.builtin "min") (rMinT K) := by subst h; exact call_minT hc hr.units
/-- min(xs, default=None) -/
def tMinD (K : PySem.W.Frag) (te : TA) : TE := fun σ H Q => te σ H fun vs H1 => ∃ (p : Addr) (ts : TupL) (sh : List Bool), vs = [.ref p] ∧ SqL K H1 p (refs ts) ∧ AtT H1 ts ∧ (∀ t ∈ ts, shape t.2 = sh) ∧ (ts = [] → Q .non H1) ∧
  ∀ t : Addr × List Key, t ∈ ts → (∀ u ∈ ts, lexB u.2 t.2 = false) → Q (.ref t.1) H1
end
end L2

set_option Elab.async false
set_option linter.all false
set_option maxRecDepth 100000
/-! MY LAYER, 29: xs.remove(x) of ints and of tuples of ints and texts -/
namespace L2
open PySem PySem.Spec PyProof.Rows
theorem map_erase {α β : Type} (f : α → β) : ∀ (l : List α) (i : Nat), (l.eraseIdx i).map f = (l.map f).eraseIdx i
  | [], _ => rfl
  | a :: r, 0 => rfl
  | a :: r, i + 1 => by simp [map_erase f r i]
theorem rem_units {A : Around} {a : Args} : (A.under (.builtin "list.remove.loop" a)).units ≤ A.units + 1 := by
  show A.units + (Code.builtin "list.remove.loop" a).cUnits ≤ A.units + 1
  rw [plainId_units MeetsSeq.plain_remove_loop]
  exact Nat.le_refl _
/-- how the things of a list stand to one, at a state -/
def EqS (s : Shared) (items : List Value) (v : Value) (e : Nat → Bool) : Prop := ∀ (prog : Program) (w : World) (A : Around) (E : Value → Shared → Prop) (Q : Bool → Shared → Prop) (m : Nat) (x : Value), A.units + 2 < cLine → items[m]? = some x → Q (e m) s → wpAny (model prog w) A (eqBool x v) Q E s
theorem rem_loop {prog : Program} {w : World} {A : Around} {R : Result → Shared → Prop} {s : Shared} {l : Addr} {items : List Value} {n : Nat} {v : Value} {e : Nat → Bool} {j : Nat} (hl : s.heap.get? l = some { cls := .type "list", data := .seq items.toArray n }) (hq : EqS s items v e) (hu : A.units + 8 < cLine) (hz : items.length ≤ 1000)
    (hj : j < items.length) (h1 : e j = true) (h0 : ∀ m, m < j → e m = false) (q : R (.ok (.ret .none)) { s with heap := s.heap.update l (Obj.mapSeq fun xs => xs.eraseIdxIfInBounds j) }) :
    ∀ (k i : Nat), j - i = k → i ≤ j → codeAny (model prog w) A (.builtin "list.remove.loop" { pos := [.ref l, v, rawInt (i : Int)] }) R s
  | k, i, hk, hi => by
    refine codeAny_builtin MeetsSeq.entry_remove_loop ?_
    have hx : items.toArray[((i : Nat) : Int).toNat]? = some items[i] := by rw [Int.toNat_natCast]; simp
    show wpAny _ _ (Builtin.List.listItems (.ref l) >>= _) _ _ _
    refine wpAny_bind (listItems_at hl rfl ?_)
    show wpAny _ _ (match items.toArray[((i : Nat) : Int).toNat]? with | none => _ | some x => _) _ _ _
    rw [hx]
    refine wpAny_bind (hq prog w _ _ _ i _ (Nat.lt_of_le_of_lt (Nat.add_le_add_right rem_units 2) (by omega)) (by simp) ?_)
    by_cases e0 : i = j
    · subst e0
      rw [h1]
      show wpAny _ _ (updateSeq l _ >>= _) _ _ _
      refine wpAny_bind (wpAny_updateSeq hl rfl ?_ (by rw [List.size_toArray, sizeLine_eq]; omega) ?_)
      · rw [Int.toNat_natCast]
        exact wpAny_pure q
      · show (items.toArray.eraseIdxIfInBounds ((i : Nat) : Int).toNat).size ≤ _
        rw [List.eraseIdxIfInBounds_toArray, List.size_toArray, sizeLine_eq]
        have := List.length_eraseIdx_le items ((i : Nat) : Int).toNat
        omega
    · rw [h0 i (by omega)]
      refine wpAny_pure ⟨plainId_quiet MeetsSeq.plain_remove_loop _, ?_⟩
      have := rem_loop (prog := prog) (w := w) hl hq hu hz hj h1 h0 q (k - 1) (i + 1) (by omega) (by omega)
      rw [show ((i + 1 : Nat) : Int) = (i : Int) + 1 by omega] at this
      exact this
termination_by k => k
theorem rem_meets (l : Addr) (items : List Value) (n : Nat) (v : Value) (e : Nat → Bool) (j : Nat) : Meets (Builtin.«list.remove» { pos := [.ref l, v] }) (fun A R s => s.heap.get? l = some { cls := .type "list", data := .seq items.toArray n } ∧ EqS s items v e ∧ A.units + 8 < cLine ∧ items.length ≤ 1000 ∧ j < items.length ∧ e j = true ∧ (∀ m, m < j → e m = false) ∧
    R (.ok (.ret .none)) { s with heap := s.heap.update l (Obj.mapSeq fun xs => xs.eraseIdxIfInBounds j) }) := by
  intro prog w A R s ⟨hl, hq, hu, hz, hj, h1, h0, q⟩
  show wpAny _ _ (pure (Fin.again (.builtin "list.remove.loop" { pos := [.ref l, v, rawInt 0] }))) _ _ _
  exact wpAny_pure ⟨plainId_quiet MeetsSeq.plain_remove_loop _, rem_loop hl hq hu hz hj h1 h0 q j 0 rfl (Nat.zero_le _)⟩
section
variable {X : Cx}
def rRemI : V → List V → Hp → VK → Prop := fun x vs H Q => ∃ (l : Addr) (ns : List Int) (n : Int), x = .ref l ∧ vs = [.int n] ∧ H l = some (.lst (ns.map V.int)) ∧ n ∈ ns ∧ ns.length ≤ 1000 ∧ Q .non (upd H l (.lst ((ns.erase n).map V.int)))
def rRemT : V → List V → Hp → VK → Prop := fun x vs H Q => ∃ (l : Addr) (ts : TupL) (t : Addr × List Key), x = .ref l ∧ vs = [.ref t.1] ∧ H l = some (.lst (refs ts)) ∧ AtT H ts ∧ t ∈ ts ∧ ts.length ≤ 1000 ∧ ∀ (i : Nat) (hi : i < ts.length), ts[i].2 = t.2 → Q .non (upd H l (.lst (refs (ts.eraseIdx i))))
theorem mt_remT (hu : X.A.units + 64 < cLine) : MtM X "list.remove" rRemT := by
  intro pins s σ H x vs v us Q I rx rv h
  obtain ⟨l, ts, t, rfl, rfl, hH, hat, ht, hz, q⟩ := h
  cases rx
  obtain ⟨u, rfl, ru⟩ := rv.one
  cases ru
  obtain ⟨z, its, n', r, hl, e⟩ := I.lstM hH
  have ei := vals_refs r
  subst ei
  have hj : ts.findIdx (fun u => decide (u.2 = t.2)) < ts.length := List.findIdx_lt_length.mpr ⟨t, ht, decide_eq_true rfl⟩
  have key : ∀ u ∈ ts, (tupleKind (mixKind X.prog X.w)).is s.heap u.2 u.1 := fun u hu' => I.tkey (hat u hu')
  have tup : ∀ u ∈ ts, ∃ i : List Value, Vals (u.2.map kV) i ∧ IsTup s.heap u.1 i.toArray := fun u hu' => by
    obtain ⟨i, v, q, _⟩ := I.tuple (SqT.of (K := X.K) (hat u hu'))
    exact ⟨i, v, q⟩
  refine call_meets F.slot_list_remove ⟨_, e, rfl⟩ F.entry_list_remove (F.args_list_remove_2 _ _) (rem_meets l _ n' _ (fun m => match ts[m]? with | some u => decide (u.2 = t.2) | none => false) (ts.findIdx (fun u => decide (u.2 = t.2)))) ⟨e, ?_, by omega, by rw [List.length_map]; omega, by rw [List.length_map]; exact hj, ?_, ?_, ?_⟩
  · intro prog w A E Q' m x hA hx hQ
    rw [List.getElem?_map] at hx
    cases hm : ts[m]? with
    | none => rw [hm] at hx; cases hx
    | some u =>
      rw [hm] at hx
      cases hx
      simp only [hm] at hQ
      obtain ⟨i1, v1, o1, g1, c1, n1, d1⟩ := tup u (List.mem_of_getElem? hm)
      obtain ⟨i2, v2, o2, g2, c2, n2, d2⟩ := tup t ht
      refine wpAny_eqBool_tuple (knd := mixKind prog w) (x := u.2) (y := t.2) (by omega) ⟨o1, _, n1, g1, c1, d1, ?_⟩ ⟨o2, _, n2, g2, c2, d2, ?_⟩ hQ
      · simpa using keys_are u.2 i1 v1
      · simpa using keys_are t.2 i2 v2
  · simp only [List.getElem?_eq_getElem hj]
    exact List.findIdx_getElem (w := hj)
  · intro m hm
    have hml : m < ts.length := by omega
    simp only [List.getElem?_eq_getElem hml]
    exact List.not_of_lt_findIdx (xs := ts) (p := fun u => decide (u.2 = t.2)) hm
  · have hv : Vals (refs (ts.eraseIdx (ts.findIdx fun u => decide (u.2 = t.2)))) ((ts.map fun t => Value.ref t.1).eraseIdx (ts.findIdx fun u => decide (u.2 = t.2))) := by
      have := r.eraseIdx (ts.findIdx fun u => decide (u.2 = t.2))
      unfold refs at this ⊢
      rw [map_erase]
      exact this
    refine ⟨.non, _, I.lset (its' := (ts.map fun t => Value.ref t.1).eraseIdx (ts.findIdx fun u => decide (u.2 = t.2))) hH e ?_ hv ?_, rfl, q _ hj (of_decide_eq_true (List.findIdx_getElem (w := hj)))⟩
    · show (ts.map fun t => Value.ref t.1).toArray.eraseIdxIfInBounds _ = _
      rw [List.eraseIdxIfInBounds_toArray]
    · unfold refs
      rw [List.length_map]
      have := List.length_eraseIdx_le ts (ts.findIdx fun u => decide (u.2 = t.2))
      rw [sizeLine_eq]; omega
theorem remT {k : Nat} (hr : Room k X.A) : MtM X "list.remove" rRemT := mt_remT hr.units
end
end L2

set_option Elab.async false
set_option linter.all false
set_option maxRecDepth 100000
/-! MY LAYER, 30: t >= u of tuples of ints and texts -/
namespace L2
open PySem PySem.Spec PyProof.Rows
theorem ge_dec (i j : Int) : (!decide (i < j)) = decide (j ≤ i) := by by_cases z : i < j <;> simp [z] <;> omega
theorem rcGe_key (A : Around) (s : Shared) {k m : Key} {p q : Value} (hp : RelV (kV k) p) (hq : RelV (kV m) q) (hs : k.isLeft = m.isLeft) (prog : Program) (w : World) (E : Value → Shared → Prop) (Q : Value → Shared → Prop) (h : Q (.bool (!kLt k m)) s) :
    wpAny (model prog w) A (richCompare .GtE p q) Q E s := by
  cases k with
  | inl i =>
    cases m with
    | inl j =>
      obtain ⟨t, rfl⟩ := hp
      obtain ⟨u, rfl⟩ := hq
      exact (PyProof.Rows.ge_int (ge_dec i j ▸ h) : wpAny (model prog w) A (compareOp .GtE (.int i t) (.int j u)) Q E s)
    | inr y => cases hs
  | inr x =>
    cases m with
    | inl j => cases hs
    | inr y =>
      obtain ⟨t, rfl⟩ := hp
      obtain ⟨u, rfl⟩ := hq
      exact (PySem.P.ge_str h : wpAny (model prog w) A (compareOp .GtE (.str x t) (.str y u)) Q E s)
section
open PySem.SeqAt
open PySem.AutoSeq1 (wpAny_loadPart')
open PySem.MeetsSeq PySem.MeetsSeq2 PySem.MeetsSeq3
theorem tuple_ge_keys (l b : Addr) (items items2 : Array Value) (n n2 : Nat) (dd dd2 : Option Addr) (sl sl2 : Array (Option Value)) (ks ms : List Key) (hi : Vals (ks.map kV) items.toList) (hj : Vals (ms.map kV) items2.toList) (hs : shape ks = shape ms) :
    Meets (Builtin.«tuple.__ge__» ⟨[.ref l, .ref b], []⟩)
      (fun _ R s => s.heap.get? l = some { cls := .type "tuple", dict := dd, data := .seq items n, slots := sl } ∧ s.heap.get? b = some { cls := .type "tuple", dict := dd2, data := .seq items2 n2, slots := sl2 } ∧
        R (.ok (.ret (.bool (!lexB ks ms)))) s) :=
  .of_wp fun prog w A R s h => by
    obtain ⟨hp, g, d, tk, os⟩ := s; obtain ⟨hl, hb, h⟩ := h
    have f2 := AutoSeq1.sub_tuple_tuple
    have z1 : items.size = ks.length := by have := hi.length; simpa using this.symm
    have z2 : items2.size = ms.length := by have := hj.length; simpa using this.symm
    have z3 : ks.length = ms.length := by have := congrArg List.length hs; simpa [shape] using this
    wp_walk using wpAny_loadPart' hl, wpAny_loadPart' hb, wpAny_forIn_list _ (fun rest b s' => b.1 = none ∧ s' = ⟨hp, g, d, tk, os⟩ ∧ ∃ (vs ws : List Value) (ks' ms' : List Key), rest = vs.zip ws ∧
      Vals (ks'.map kV) vs ∧ Vals (ms'.map kV) ws ∧ shape ks' = shape ms' ∧ R (.ok (.ret (.bool (!lexB ks' ms')))) ⟨hp, g, d, tk, os⟩) _
    case turn =>
      rintro ⟨y, x⟩ rest b s' ⟨hb', rfl, vs, ws, ks', ms', hz, hvi, hwi, hsh, hR⟩
      cases ks' with
      | nil => cases hvi; rw [List.zip_nil_left] at hz; cases hz
      | cons k1 kr =>
        cases ms' with
        | nil => cases hsh
        | cons m1 mr =>
          cases hvi with
          | cons r1 rr =>
            cases hwi with
            | cons r1' rr' =>
              rw [List.zip_cons_cons] at hz
              injection hz with hyx hrest
              injection hyx with hy hx
              subst hy hx
              rw [lexB_cons] at hR
              unfold shape at hsh
              rw [List.map_cons, List.map_cons] at hsh
              injection hsh with s1 s2
              obtain ⟨e, he, hiff⟩ := eqAt_key A.in1 ⟨hp, g, d, tk, os⟩ r1 r1' s1
              refine wpAny_bind (he prog w _ _ ?_)
              cases e with
              | true =>
                rw [if_pos (hiff.mp rfl)] at hR
                wp_walk
                exact ⟨rfl, rfl, _, _, _, _, hrest, rr, rr', s2, hR⟩
              | false =>
                rw [if_neg (fun q => absurd (hiff.mpr q) Bool.false_ne_true)] at hR
                have hri := rcGe_key A.in1 ⟨hp, g, d, tk, os⟩ r1 r1' s1 prog w
                wp_walk using hri
                exact ⟨_, rfl, by simpa using hR⟩
    case fin =>
      rintro ⟨b1, b2⟩ s' ⟨hb', rfl, vs, ws, ks', ms', hz, hvi, hwi, hsh, hR⟩
      simp only at hb'
      subst hb'
      have hv : (!lexB ks' ms') = decide (items.size ≥ items2.size) := by
        rw [decide_eq_true (by omega)]
        cases ks' with
        | nil =>
          cases ms' with
          | nil => rfl
          | cons _ _ => cases hsh
        | cons k1 kr =>
          cases ms' with
          | nil => cases hsh
          | cons m1 mr =>
            cases hvi with
            | cons r1 rr =>
              cases hwi with
              | cons r1' rr' => rw [List.zip_cons_cons] at hz; cases hz
      rw [hv] at hR
      wp_walk
      exact ⟨_, rfl, by simpa [Builtin.Tuple.tupleCompareSizes] using hR⟩
    case h =>
      exact ⟨rfl, rfl, items.toList, items2.toList, ks, ms, rfl, hi, hj, hs, h⟩
end
section
variable {prog : Program} {w : World} {A : Around} {E : Value → Shared → Prop} {s : Shared}
theorem ge_tupKeys {l b : Addr} {items items2 : Array Value} {ks ms : List Key} {Q : Value → Shared → Prop} (hl : IsTup s.heap l items) (hb : IsTup s.heap b items2) (hi : Vals (ks.map kV) items.toList) (hj : Vals (ms.map kV) items2.toList) (hs : shape ks = shape ms)
    (hu : A.units < cLine) (h : Q (.bool (!lexB ks ms)) s) : wpAny (model prog w) A (richCompare .GtE (.ref l) (.ref b)) Q E s := by
  obtain ⟨⟨cls, dd, data, sl⟩, ho, hc, n, hd⟩ := id hl
  obtain ⟨⟨cls2, dd2, data2, sl2⟩, ho2, hc2, n2, hd2⟩ := id hb
  simp only at hc hd hc2 hd2
  subst hc hd hc2 hd2
  exact richCompare_meets_room (op := .GtE) ⟨_, ho, rfl⟩ ⟨_, ho2, rfl⟩ PySem.F.slot_tuple_ge PySem.F.entry_tuple_ge (PySem.F.args_tuple_ge_2 _ _) (tuple_ge_keys l b items items2 n n2 dd dd2 sl sl2 ks ms hi hj hs)
    ⟨ho, ho2, show Value.bool (!lexB ks ms) ≠ Value.notImplemented ∧ Q (.bool (!lexB ks ms)) s from ⟨(fun x => nomatch x), h⟩⟩ hu
end
section
variable {X : Cx}
def rGeK (K : PySem.W.Frag) : R2 := fun x y H Q => ∃ (a b : Addr) (ks ms : List Key), x = .ref a ∧ y = .ref b ∧ SqT K H a (ks.map kV) ∧ SqT K H b (ms.map kV) ∧ shape ks = shape ms ∧ Q (.bl (!lexB ks ms)) H
theorem op_geK (hu : X.A.units < cLine) : OpR X (compareOp .GtE) (rGeK X.K) := by
  intro pins s σ H x y v u Q I rx ry h
  obtain ⟨a, b, ks, ms, rfl, rfl, ha, hb, hs, q⟩ := h
  cases rx
  cases ry
  obtain ⟨its, r1, p1, _⟩ := I.tuple ha
  obtain ⟨its2, r2, p2, _⟩ := I.tuple hb
  exact ge_tupKeys p1 p2 r1 r2 hs hu ⟨.bl (!lexB ks ms), H, I, rfl, q⟩
theorem geK (K : PySem.W.Frag) {k : Nat} (hr : Room k X.A) (h : X.K = K := by rfl) : OpR X (compareOp .GtE) (rGeK K) := by subst h; exact op_geK (by have := hr.units; omega)
end
end L2

set_option Elab.async false
set_option linter.all false
set_option maxRecDepth 100000
/-! MY LAYER, 31: max of a list of ints, list.count of ints -/
namespace L2
open PySem PySem.Spec PyProof.Rows
def rMaxL (K : PySem.W.Frag) : List V → Hp → VK → Prop := fun vs H Q => ∃ (p : Addr) (ns : List Int), vs = [.ref p] ∧ SqL K H p (ns.map V.int) ∧ 0 < ns.length ∧ ∀ M, M ∈ ns → (∀ a ∈ ns, a ≤ M) → Q (.int M) H
def isNum (n : Int) : Value → Bool
  | .int a _ => a == n
  | _ => false
section
variable {X : Cx}
def rCountI : V → List V → Hp → VK → Prop := fun x vs H Q => ∃ (l : Addr) (ns : List Int) (n : Int), x = .ref l ∧ vs = [.int n] ∧ H l = some (.lst (ns.map V.int)) ∧ Q (.int ((ns.count n : Nat) : Int)) H
end
section
variable {X : Cx} {T name id : String} {r : V → List V → Hp → VK → Prop} {o e : Expr} {es : List Expr} {to : TE} {t : TA} {apos cpos : Pos}
end
end L2

set_option Elab.async false
set_option linter.all false
set_option maxRecDepth 100000
/-! MY LAYER, 32: xs.remove(x) and x in xs of any data -/
namespace L2
open PySem PySem.Spec PyProof.Rows
/-- how the things of a list stand to one, at a state -/
def EqS6 (s : Shared) (items : List Value) (v : Value) (e : Nat → Bool) : Prop := ∀ (prog : Program) (w : World) (A : Around) (E : Value → Shared → Prop) (Q : Bool → Shared → Prop) (m : Nat) (x : Value), A.units + 60 < cLine → items[m]? = some x → Q (e m) s → wpAny (model prog w) A (eqBool x v) Q E s
section
variable {X : Cx}
def rRemD (K : PySem.W.Frag) : V → List V → Hp → VK → Prop := fun x vs H Q => ∃ (l : Addr) (xs : List V) (ds : List PyData) (y : V) (d : PyData) (i : Nat), x = .ref l ∧ vs = [y] ∧ H l = some (.lst xs) ∧ DVs K H xs ds ∧ DV K H y d ∧ (∀ e ∈ ds, e.canLay0 = true) ∧ d.canLay0 = true ∧ d.depth ≤ 56 ∧ xs.length ≤ 1000 ∧
  i < ds.length ∧ (∀ e, ds[i]? = some e → PyData.eqv e d = true) ∧ (∀ m e, m < i → ds[m]? = some e → PyData.eqv e d = false) ∧ Q .non (upd H l (.lst (xs.eraseIdx i)))
def rInD (K : PySem.W.Frag) : R2 := fun x y H Q => ∃ (l : Addr) (xs : List V) (ds : List PyData) (d : PyData), y = .ref l ∧ SqL K H l xs ∧ DVs K H xs ds ∧ DV K H x d ∧ PyData.canLayAll0 ds = true ∧ SeqAt.shaped d = true ∧ d.depth ≤ 60 ∧ Q (.bl (ds.any fun e => PyData.eqv e d)) H
def rSumC (K : PySem.W.Frag) : List V → Hp → VK → Prop := fun vs H Q => ∃ (p : Addr) (ns : List Int), vs = [.ref p] ∧ SqL K H p (ns.map V.int) ∧ ns.length ≤ 1000 ∧ (∀ n ∈ ns, 0 ≤ n ∧ n ≤ 10000000000000) ∧ Q (.int ns.sum) H
end
end L2

set_option Elab.async false
set_option linter.all false
set_option maxRecDepth 100000
/-! MY LAYER, 33: d[k], d[k] = v (a new key) of dicts by tuples -/
namespace L2
open PySem PySem.Spec PyProof.Rows
section
variable {X : Cx}
def rIxD : R2 := fun x y H Q => ∃ d kvs b ks v, x = .ref d ∧ y = .ref b ∧ H d = some (.dT kvs) ∧ H b = some (.tup (ks.map kV)) ∧ lookK kvs ks = some v ∧ Q v H
def rSetDT : TSet := fun o i v H Q => ∃ d kvs b ks, o = .ref d ∧ i = .ref b ∧ H d = some (.dT kvs) ∧ H b = some (.tup (ks.map kV)) ∧ lookK kvs ks = none ∧ kvs.length < sizeLine ∧ Q (upd H d (.dT (kvs ++ [(ks, v)])))
end
end L2

set_option Elab.async false
set_option linter.all false
set_option maxRecDepth 100000
/-! MY LAYER, 34: a walk over zip(a, b) whose target is a name -/
namespace L2
open PySem PySem.Spec PyProof.Rows
abbrev IsZipG (h : Heap) (z TI TO : Addr) (f0 : Value) (fl : Bool) : Prop :=
  h.get? z = some { cls := .type "zip", dict := none, data := .fields #[f0, .bool fl, .bool false, .ref TI, .ref TO], slots := #[] }
section
variable {prog : Program} {w : World} {A : Around} {E : Value → Shared → Prop} {s : Shared}
end
end L2

set_option Elab.async false
set_option linter.all false
set_option maxRecDepth 100000
/-! MY LAYER, 35: comprehensions of two clauses -/
namespace L2
open PySem PySem.Spec PyProof.Rows
section
variable {prog : Program} {w : World} {A : Around} {R : Result → Shared → Prop} {s : Shared}
end
/-- the inner clause's turns -/
def InnerGo (J : It) (D : Addr) (ys : List V) (σ : St) (H : Hp) (g : TG) (te : TE) (N : List V → St → Hp → Prop) : Prop :=
  ∃ W : Nat → Nat → List V → St → Hp → Prop, (∃ m, W 0 m ys σ H) ∧
    ∀ i m ys σ2 H2, W i m ys σ2 H2 → (J.stop i H2 ∧ N ys σ2 H2) ∨
      (J.go i H2 ∧ ∃ N2 : List V → St → Hp → Prop, (∀ ys' σ' H', N2 ys' σ' H' → ∃ m', m' < m ∧ W (i + 1) m' ys' σ' H') ∧ ∀ x H3, J.yld i H2 x H3 → g x σ2 H3 fun σ4 H4 =>
        te σ4 H4 fun y H6 => H6 D = some (.lst ys) ∧ ys.length < sizeLine ∧ N2 (ys ++ [y]) σ4 (upd H6 D (.lst (ys ++ [y]))))
def Comp2Go (J : It) (D : Addr) (k : Nat) (σ : St) (H1 : Hp) (g : TG) (wi2 : TI) (g2 : TG) (te : TE) (Q : VK) : Prop :=
  ∃ W : Nat → Nat → List V → St → Hp → Prop, (∃ m, W 0 m [] (σ ++ List.replicate k none) (upd H1 D (.lst []))) ∧
    ∀ i m ys σ2 H2, W i m ys σ2 H2 → (J.stop i H2 ∧ Q (.ref D) H2) ∨
      (J.go i H2 ∧ ∃ N : List V → St → Hp → Prop, (∀ ys' σ' H', N ys' σ' H' → ∃ m', m' < m ∧ W (i + 1) m' ys' σ' H') ∧ ∀ x H3, J.yld i H2 x H3 → g x σ2 H3 fun σ4 H4 => wi2 σ4 H4 fun J2 H5 => InnerGo J2 D ys σ4 H5 g2 te N)
def tComp2 (n : Nat) (wi : TI) (g : TG) (wi2 : TI) (g2 : TG) (te : TE) : TE := fun σ H Q => wi σ H fun J H1 => ∀ D, H1 D = none → Comp2Go J D n σ H1 g wi2 g2 te Q
section
variable {X : Cx} {N N' : List Str} {o c : Scope}
end
end L2

set_option Elab.async false
set_option linter.all false
set_option maxRecDepth 100000
/-! MY LAYER, 36: walks by range in comprehensions of two clauses; t + u of tuples with K written out -/
namespace L2
open PySem PySem.Spec PyProof.Rows
end L2

set_option Elab.async false
set_option linter.all false
/-! MY LAYER, 37: mathematics: least costs by the depths of rows (how many ways, what a tree of the least ones costs) -/
namespace Hf
open L2
abbrev PW := List (Int × Nat)
def val (P : PW) : Int := (P.map fun p => p.1 * (p.2 : Int)).sum
def ws (P : PW) : List Int := P.map (·.1)
def ds (P : PW) : List Nat := P.map (·.2)
def zs (z : Nat) : List Int := List.replicate z 0
def kr (w E : Nat) (D : List Nat) : Nat := (D.map fun d => w ^ (E - d)).sum
def Kr (w : Nat) (D : List Nat) : Prop := ∃ E, (∀ d ∈ D, d ≤ E) ∧ kr w E D = w ^ E
/-- the least ones put together again and again: what it costs -/
inductive Hu (w : Nat) : List Int → Nat → Int → Prop
  | stop {e : Int} {m : Nat} : Hu w [e] m 0
  | step {E L : List Int} {m : Nat} {C : Int} : 1 < L.length → E.Perm L → L.Pairwise (· ≤ ·) → Hu w (L.drop m ++ [(L.take m).sum]) w C → Hu w E m (C + (L.take m).sum)
def Fit (w n m : Nat) : Prop := n = 1 ∨ ∃ t, n = m + t * (w - 1)
/-- first times and ways that fit -/
structure Fits (w n m : Nat) : Prop where
  w2 : 2 ≤ w
  m2 : 2 ≤ m
  mw : m ≤ w
  ok : Fit w n m
end Hf

set_option Elab.async false
set_option linter.all false
set_option maxRecDepth 100000
/-! MY LAYER, 38: {k: v for ..} of dicts by tuples, each key once -/
namespace L2
open PySem PySem.Spec PyProof.Rows
section
variable {prog : Program} {w : World} {A : Around} {R : Result → Shared → Prop} {s : Shared}
end
/-- what the turns of {k: v for ..} ask -/
def DictGo (J : It) (D : Addr) (k : Nat) (σ : St) (H1 : Hp) (g : TG) (tc : TT) (tk te : TE) (Q : VK) : Prop :=
  ∃ W : Nat → Nat → List (List Key × V) → St → Hp → Prop, (∃ m, W 0 m [] (σ ++ List.replicate k none) (upd H1 D (.dT []))) ∧
    ∀ i m ys σ2 H2, W i m ys σ2 H2 → (J.stop i H2 ∧ Q (.ref D) H2) ∨
      (J.go i H2 ∧ ∃ N : List (List Key × V) → St → Hp → Prop, (∀ ys' σ' H', N ys' σ' H' → ∃ m', m' < m ∧ W (i + 1) m' ys' σ' H') ∧ ∀ x H3, J.yld i H2 x H3 → g x σ2 H3 fun σ4 H4 => tc σ4 H4 fun b H5 =>
        if b = true then tk σ4 H5 fun kv H6 => te σ4 H6 fun y H7 => ∃ (b : Addr) (ks : List Key), kv = .ref b ∧ H7 D = some (.dT ys) ∧ H7 b = some (.tup (ks.map kV)) ∧ lookK ys ks = none ∧ ys.length < sizeLine ∧ N (ys ++ [(ks, y)]) σ4 (upd H7 D (.dT (ys ++ [(ks, y)]))) else N ys σ4 H5)
def tDComp (n : Nat) (wi : TI) (g : TG) (tc : TT) (tk te : TE) : TE := fun σ H Q => wi σ H fun J H1 => ∀ D, H1 D = none → DictGo J D n σ H1 g tc tk te Q
section
variable {X : Cx} {N N' : List Str} {o c : Scope}
end
end L2

set_option Elab.async false
set_option linter.all false
set_option maxRecDepth 100000
namespace L2
open PySem PySem.Spec PyProof.Rows
/-! ### lists of pairs as tables -/
section
variable {κ : Type} [DecidableEq κ]
def valV (kvs : List (κ × V)) (k : κ) : Option V := (kvs.find? fun kv => decide (kv.1 = k)).map (·.2)
/-- in its place, or at the end -/
def putK (kvs : List (κ × V)) (k : κ) (v : V) : List (κ × V) :=
  if (kvs.any fun kv => decide (kv.1 = k)) = true then kvs.map (fun kv => if kv.1 = k then (kv.1, v) else kv) else kvs ++ [(k, v)]
def dropK (kvs : List (κ × V)) (k : κ) : List (κ × V) := kvs.filter fun kv => decide (kv.1 ≠ k)

theorem valV_nil {k : κ} : valV ([] : List (κ × V)) k = none := rfl
theorem valV_pos {p : κ × V} {r : List (κ × V)} {k : κ} (e : p.1 = k) : valV (p :: r) k = some p.2 := by simp [valV, List.find?_cons, e]
theorem valV_neg {p : κ × V} {r : List (κ × V)} {k : κ} (e : ¬ p.1 = k) : valV (p :: r) k = valV r k := by simp [valV, List.find?_cons, e]
theorem valV_any (k : κ) : ∀ kvs : List (κ × V), (kvs.any fun kv => decide (kv.1 = k)) = (valV kvs k).isSome
  | [] => rfl
  | p :: r => by
    rw [List.any_cons]
    by_cases e : p.1 = k
    · simp only [valV_pos e, decide_eq_true e, Bool.true_or, Option.isSome_some]
    · rw [valV_neg e, decide_eq_false e, Bool.false_or]; exact valV_any k r
theorem valV_map (k j : κ) (y : V) : ∀ kvs : List (κ × V), valV (kvs.map fun kv => if kv.1 = k then (kv.1, y) else kv) j = (valV kvs j).map fun x => if j = k then y else x
  | [] => rfl
  | p :: r => by
    have ih := valV_map k j y r
    rw [List.map_cons]
    by_cases h : p.1 = k
    · rw [if_pos h]
      by_cases e : p.1 = j
      · rw [valV_pos (p := (p.1, y)) e, valV_pos e, Option.map_some, if_pos (e.symm.trans h)]
      · rw [valV_neg (p := (p.1, y)) e, valV_neg e, ih]
    · rw [if_neg h]
      by_cases e : p.1 = j
      · rw [valV_pos (p := p) e, valV_pos e, Option.map_some, if_neg (fun z => h (e.trans z))]
      · rw [valV_neg (p := p) e, valV_neg e, ih]
theorem valV_snoc (k j : κ) (y : V) : ∀ kvs : List (κ × V), valV kvs k = none → valV (kvs ++ [(k, y)]) j = if j = k then some y else valV kvs j
  | [], _ => by
    by_cases e : k = j
    · rw [if_pos e.symm]; exact valV_pos (p := (k, y)) e
    · rw [if_neg (fun z => e z.symm)]; exact valV_neg (p := (k, y)) e
  | p :: r, hn => by
    rw [List.cons_append]
    have hk : ¬ p.1 = k := fun z => by rw [valV_pos z] at hn; cases hn
    rw [valV_neg hk] at hn
    have ih := valV_snoc k j y r hn
    by_cases e : p.1 = j
    · rw [valV_pos e, valV_pos e, if_neg (fun z => hk (e.trans z))]
    · rw [valV_neg e, valV_neg e, ih]
theorem valV_put (kvs : List (κ × V)) (k j : κ) (y : V) : valV (putK kvs k y) j = if j = k then some y else valV kvs j := by
  unfold putK
  by_cases a : (kvs.any fun kv => decide (kv.1 = k)) = true
  · rw [if_pos a, valV_map]
    rw [valV_any] at a
    by_cases e : j = k
    · obtain ⟨x, hx⟩ := Option.isSome_iff_exists.mp a
      rw [if_pos e, e, hx, Option.map_some, if_pos rfl]
    · rw [if_neg e]
      cases valV kvs j with
      | none => rfl
      | some x => rw [Option.map_some, if_neg e]
  · rw [if_neg a]
    refine valV_snoc k j y kvs ?_
    rw [valV_any] at a
    cases q : valV kvs k with
    | none => rfl
    | some x => rw [q] at a; exact (a rfl).elim
theorem length_putK (kvs : List (κ × V)) (k : κ) (v : V) : (putK kvs k v).length ≤ kvs.length + 1 := by
  unfold putK
  split
  · rw [List.length_map]; omega
  · rw [List.length_append, List.length_cons, List.length_nil]; omega
theorem putK_new {kvs : List (κ × V)} {k : κ} (v : V) (h : valV kvs k = none) : putK kvs k v = kvs ++ [(k, v)] := by
  unfold putK
  rw [valV_any, h]
  exact if_neg (by decide)

theorem RelO.isSome_eq {o : Option V} {u : Option Value} (r : RelO o u) : o.isSome = u.isSome := by
  cases o with
  | none => cases u with
    | none => rfl
    | some _ => exact (show False from r).elim
  | some _ => cases u with
    | none => exact (show False from r).elim
    | some _ => rfl
/-- raw tables of the same keys -/
theorem KV.val {kvs : List (κ × V)} {vs : List (κ × Value)} (r : KV kvs vs) (k : κ) : RelO (valV kvs k) (valueAt vs k) := by
  unfold KV at r
  induction r with
  | nil => exact True.intro
  | @cons p q ps qs h t ih =>
    obtain ⟨h1, h2⟩ := h
    by_cases e : p.1 = k
    · have e' : q.1 = k := h1.symm.trans e
      have b : valueAt (q :: qs) k = some q.2 := by simp [valueAt, List.find?_cons, e']
      rw [valV_pos e, b]; exact h2
    · have e' : ¬ q.1 = k := fun z => e (h1.trans z)
      have b : valueAt (q :: qs) k = valueAt qs k := by simp [valueAt, List.find?_cons, e']
      rw [valV_neg e, b]; exact ih
theorem KV.any {kvs : List (κ × V)} {vs : List (κ × Value)} (r : KV kvs vs) (k : κ) : (kvs.any fun kv => decide (kv.1 = k)) = vs.any fun kv => decide (kv.1 = k) := by
  unfold KV at r
  induction r with
  | nil => rfl
  | cons h t ih => rw [List.any_cons, List.any_cons, ih, h.1]
theorem KV.repl {kvs : List (κ × V)} {vs : List (κ × Value)} (r : KV kvs vs) (k : κ) {y : V} {u : Value} (ry : RelV y u) :
    KV (kvs.map fun kv => if kv.1 = k then (kv.1, y) else kv) (vs.map fun kv => if kv.1 = k then (kv.1, u) else kv) := by
  unfold KV at r ⊢
  induction r with
  | nil => exact .nil
  | @cons p q ps qs h t ih =>
    rw [List.map_cons, List.map_cons]
    refine .cons ?_ ih
    obtain ⟨h1, h2⟩ := h
    by_cases e : p.1 = k
    · rw [if_pos e, if_pos (h1.symm.trans e)]; exact ⟨h1, ry⟩
    · rw [if_neg e, if_neg (fun z => e (h1.trans z))]; exact ⟨h1, h2⟩
theorem KV.put {kvs : List (κ × V)} {vs : List (κ × Value)} (r : KV kvs vs) (k : κ) {y : V} {u : Value} (ry : RelV y u) : KV (putK kvs k y) (stored vs k u) := by
  unfold putK stored
  rw [r.any k]
  by_cases e : (vs.any fun kv => decide (kv.1 = k)) = true
  · rw [if_pos e, if_pos e]; exact r.repl k ry
  · rw [if_neg e, if_neg e]; exact Paired.snoc r ⟨rfl, ry⟩
theorem KV.drop {kvs : List (κ × V)} {vs : List (κ × Value)} (r : KV kvs vs) (k : κ) : KV (dropK kvs k) (without vs k) := by
  unfold KV at r ⊢
  unfold dropK without
  induction r with
  | nil => exact .nil
  | @cons p q ps qs h t ih =>
    obtain ⟨h1, h2⟩ := h
    rw [List.filter_cons, List.filter_cons]
    by_cases e : p.1 = k
    · have a : ¬ decide (p.1 ≠ k) = true := by simp [e]
      have b : ¬ decide (q.1 ≠ k) = true := by simp [h1.symm.trans e]
      rw [if_neg a, if_neg b]; exact ih
    · have e' : ¬ q.1 = k := fun z => e (h1.trans z)
      have a : decide (p.1 ≠ k) = true := by simp [e]
      have b : decide (q.1 ≠ k) = true := by simp [e']
      rw [if_pos a, if_pos b]; exact .cons ⟨h1, h2⟩ ih
theorem KV.length {kvs : List (κ × V)} {vs : List (κ × Value)} (r : KV kvs vs) : kvs.length = vs.length := Paired.length r
theorem dropK_le (kvs : List (κ × V)) (k : κ) : (dropK kvs k).length ≤ kvs.length := List.length_filter_le _ _
end


/-! ### a tracked dict, its keys ints and texts or tuples of these -/
theorem kV_is {P : Program} {w : World} {k : Key} {u : Value} (r : RelV (kV k) u) : (mixKind P w).is k u = true := by
  cases k with
  | inl i => obtain ⟨t, e⟩ := (show ∃ t, u = Value.int i t from r); subst e; exact mixKind_int P w i t
  | inr x => obtain ⟨t, e⟩ := (show ∃ t, u = Value.str x t from r); subst e; exact mixKind_str P w x t
theorem items_are {P : Program} {w : World} : ∀ {ks : List Key} {us : List Value}, Vals (ks.map kV) us → ItemsAre (mixKind P w) ks us
  | [], _, r => by rw [List.map_nil] at r; cases r; exact .nil
  | k :: ks, _, r => by
    rw [List.map_cons] at r
    cases r with
    | cons h t => exact .cons (kV_is h) (items_are t)

/-- raw entries of a dict with tuple keys -/
abbrev KT (H : Hp) : List (List Key × V) → List (List Key × Addr × Value) → Prop := Paired fun p q => p.1 = q.1 ∧ H q.2.1 = some (.tup (p.1.map kV)) ∧ RelV p.2 q.2.2
theorem KT.val {H : Hp} {kvs : List (List Key × V)} {xs : List (List Key × Addr × Value)} (r : KT H kvs xs) (k : List Key) : RelO (valV kvs k) ((atKey xs k).map (·.2)) := by
  induction r with
  | nil => exact True.intro
  | @cons p q ps qs h t ih =>
    obtain ⟨h1, _, h2⟩ := h
    by_cases e : p.1 = k
    · have e' : q.1 = k := h1.symm.trans e
      have b : atKey (q :: qs) k = some q.2 := by simp [atKey, List.find?_cons, e']
      rw [valV_pos e, b]; exact h2
    · have e' : ¬ q.1 = k := fun z => e (h1.trans z)
      have b : atKey (q :: qs) k = atKey qs k := by simp [atKey, List.find?_cons, e']
      rw [valV_neg e, b]; exact ih
theorem KT.repl {H : Hp} {kvs : List (List Key × V)} {xs : List (List Key × Addr × Value)} (r : KT H kvs xs) (k : List Key) {y : V} {u : Value} (ry : RelV y u) :
    KT H (kvs.map fun kv => if kv.1 = k then (kv.1, y) else kv) (xs.map (putAt k u)) := by
  induction r with
  | nil => exact .nil
  | @cons p q ps qs h t ih =>
    rw [List.map_cons, List.map_cons]
    refine .cons ?_ ih
    obtain ⟨h1, h2, h3⟩ := h
    unfold putAt
    by_cases e : p.1 = k
    · rw [if_pos e, if_pos (h1.symm.trans e)]; exact ⟨h1, h2, ry⟩
    · rw [if_neg e, if_neg (fun z => e (h1.trans z))]; exact ⟨h1, h2, h3⟩
theorem KT.put {H : Hp} {kvs : List (List Key × V)} {xs : List (List Key × Addr × Value)} (r : KT H kvs xs) (k : List Key) {b : Addr} {y : V} {u : Value} (hb : H b = some (.tup (k.map kV))) (ry : RelV y u) :
    KT H (putK kvs k y) (storedH xs k b u) := by
  have e : (kvs.any fun kv => decide (kv.1 = k)) = (atKey xs k).isSome := by
    rw [valV_any, (r.val k).isSome_eq, Option.isSome_map]
  unfold putK storedH
  rw [e]
  by_cases q : (atKey xs k).isSome = true
  · rw [if_pos q, if_pos q]; exact r.repl k ry
  · rw [if_neg q, if_neg q]; exact Paired.snoc r ⟨rfl, hb, ry⟩
theorem KT.keeps {H H' : Hp} {kvs : List (List Key × V)} {xs : List (List Key × Addr × Value)} (r : KT H kvs xs) (ht : ∀ b ys, H b = some (.tup ys) → H' b = some (.tup ys)) : KT H' kvs xs :=
  Paired.mapP r fun _ _ z => ⟨z.1, ht _ _ z.2.1, z.2.2⟩

section
variable {P : Program} {w : World} {H : Hp} {h : Heap} {a : Addr}
theorem rd_of {u : HO} (ok : HOk P w H h) (e : Rd H a u) : ObjOk P w H h a u := e.ok ok
theorem dk_rd {kvs : List (Key × V)} (ok : HOk P w H h) (e : Rd H a (.dK kvs)) : kvs.length ≤ sizeLine ∧ (a == sysModules) = false ∧ ∃ vs, KV kvs vs ∧ h.DictOf (mixKind P w) a vs :=
  show ObjOk P w H h a (.dK kvs) from rd_of ok e
theorem dk_of {kvs : List (Key × V)} (ok : HOk P w H h) (e : H a = some (.dK kvs)) : kvs.length ≤ sizeLine ∧ (a == sysModules) = false ∧ ∃ vs, KV kvs vs ∧ h.DictOf (mixKind P w) a vs := dk_rd ok (.inl e)
/-- a tracked tuple of ints and texts is a key -/
theorem key_of {ks : List Key} (ok : HOk P w H h) (e : H a = some (.tup (ks.map kV))) : (tupleKind (mixKind P w)).is h ks a := by
  obtain ⟨_, its, r, o, h1, h2, n, h3⟩ := (show ObjOk P w H h a (.tup (ks.map kV)) from ok a _ e)
  exact ⟨o, its.toArray, n, h1, h2, h3, by simpa using items_are r⟩
theorem dt_rd {kvs : List (List Key × V)} (ok : HOk P w H h) (e : Rd H a (.dT kvs)) : kvs.length ≤ sizeLine ∧ (a == sysModules) = false ∧
    ∃ xs, KT H kvs xs ∧ h.DictOfH (tupleKind (mixKind P w)) a xs := by
  obtain ⟨z, y, xs, r, o, es, ep, h1, h2, h3, h4, h5⟩ := (show ObjOk P w H h a (.dT kvs) from rd_of ok e)
  refine ⟨z, y, xs, r, o, es, ep, h1, h2, h3, h4, fun x hx => ?_, h5⟩
  have all : ∀ {l : List (List Key × V)} {m : List (List Key × Addr × Value)}, KT H l m → ∀ x ∈ m, (tupleKind (mixKind P w)).is h x.1 x.2.1 := by
    intro l m q
    induction q with
    | nil => intro x hx; exact nomatch hx
    | @cons p q ps qs hq t ih =>
      intro x hx
      rcases List.mem_cons.mp hx with e | hx
      · subst e
        exact key_of ok (by rw [← hq.1]; exact hq.2.1)
      · exact ih x hx
  exact all r x hx
theorem dt_of {kvs : List (List Key × V)} (ok : HOk P w H h) (e : H a = some (.dT kvs)) : kvs.length ≤ sizeLine ∧ (a == sysModules) = false ∧
    ∃ xs, KT H kvs xs ∧ h.DictOfH (tupleKind (mixKind P w)) a xs := dt_rd ok (.inl e)
end

/-- what the dict at a holds at the key y -/
def DGet (H : Hp) (a : Addr) (y : V) (r : Option V) : Prop :=
  (∃ kvs k, Rd H a (.dK kvs) ∧ y = kV k ∧ r = valV kvs k) ∨ ∃ kvs k b, Rd H a (.dT kvs) ∧ y = .ref b ∧ H b = some (.tup (k.map kV)) ∧ r = valV kvs k
/-- the heap behind a[y] = v -/
def DPut (H : Hp) (a : Addr) (y v : V) (H' : Hp) : Prop :=
  (∃ kvs k, H a = some (.dK kvs) ∧ y = kV k ∧ kvs.length < sizeLine ∧ H' = upd H a (.dK (putK kvs k v))) ∨
  ∃ kvs k b, H a = some (.dT kvs) ∧ y = .ref b ∧ H b = some (.tup (k.map kV)) ∧ kvs.length < sizeLine ∧ H' = upd H a (.dT (putK kvs k v))
theorem DGet.k {H : Hp} {a : Addr} {kvs : List (Key × V)} {k : Key} (e : H a = some (.dK kvs)) : DGet H a (kV k) (valV kvs k) := .inl ⟨kvs, k, .inl e, rfl, rfl⟩
theorem DPut.k {H : Hp} {a : Addr} {kvs : List (Key × V)} {k : Key} {v : V} (e : H a = some (.dK kvs)) (hl : kvs.length < sizeLine) : DPut H a (kV k) v (upd H a (.dK (putK kvs k v))) := .inl ⟨kvs, k, e, rfl, hl, rfl⟩
section
variable {X : Cx} {pins : List (Addr × Obj)} {σ : St} {H : Hp} {s : Shared} {a : Addr} {y v : V} {u r : Value} {o : Option V} {A : Around} {E : Value → Shared → Prop}

theorem Inv.big (I : Inv X pins σ H s) : sysModules < s.heap.objs.size := by
  have h : mainGlobals < s.heap.objs.size := (I.mod.glob.keeps I.bk).lt
  exact Nat.lt_trans (by decide) h

/-- d[y], there -/
theorem d_getItem {Q : Value → Shared → Prop} (hu : A.units + 1 < cLine) (I : Inv X pins σ H s) (g : DGet H a y (some v)) (ry : RelV y u) (h : ∀ w' s', Inv X pins σ H s' → RelV v w' → Q w' s') :
    wpAny (model X.prog X.w) A (getItem (.ref a) u) Q E s := by
  rcases g with ⟨kvs, k, e, ey, l⟩ | ⟨kvs, k, b, e, ey, eb, l⟩
  · subst ey
    obtain ⟨z, hd, vs, rel, dd⟩ := dk_rd I.hok e
    obtain ⟨w', hw, rw'⟩ := RelO.some_of (v := v) (o := valueAt vs k) (by rw [l]; exact rel.val k)
    exact wpAny_getItem_of (kV_is ry) dd.mapOf hw (h w' _ (I.tok _) rw')
  · subst ey
    cases (show u = Value.ref b from ry)
    obtain ⟨z, hd, xs, rel, dd⟩ := dt_rd I.hok e
    obtain ⟨w', hw, rw'⟩ := RelO.some_of (v := v) (o := (atKey xs k).map (·.2)) (by rw [l]; exact rel.val k)
    obtain ⟨p, hp, hp2⟩ := Option.map_eq_some_iff.mp hw
    refine wpAny_getItem_heap (tupleKind_room_in1 hu) (key_of I.hok eb) dd hp ?_
    rw [hp2]
    exact h w' _ (I.tok _) rw'
/-- a dict's object is replaced -/
theorem d_write {h' : Heap} {t' : Nat} {ob : HO} (I : Inv X pins σ H s) (mu : Mut (H a)) (hs : Heap.SameBut a s.heap h') (he : ∃ q, h'.get? a = some q) (new : ObjOk X.prog X.w (upd H a ob) h' a ob) :
    Inv X pins σ (upd H a ob) { s with heap := h', toks := t' } :=
  I.write (x := a) (e := a) mu (.inl rfl) (fun b q hb z => (hs.2 b hb).trans z) he new
theorem dk_new {P : Program} {w : World} {H' : Hp} {h' : Heap} {kvs : List (Key × V)} {vs : List (Key × Value)} (z : kvs.length ≤ sizeLine) (hd : (a == sysModules) = false) (rel : KV kvs vs) (dd : h'.DictOf (mixKind P w) a vs) :
    ObjOk P w H' h' a (.dK kvs) := ⟨z, hd, vs, rel, dd⟩
/-- d[y] = v -/
theorem d_setItem {H' : Hp} {Q : Unit → Shared → Prop} (hu : A.units + 1 < cLine) (I : Inv X pins σ H s) (g : DPut H a y v H') (ry : RelV y u) (rv : RelV v r) (h : ∀ s', Inv X pins σ H' s' → Q () s') :
    wpAny (model X.prog X.w) A (setItem (.ref a) u r) Q E s := by
  rcases g with ⟨kvs, k, e, ey, l, eH⟩ | ⟨kvs, k, b, e, ey, eb, l, eH⟩
  · subst ey eH
    obtain ⟨z, hd, vs, rel, dd⟩ := dk_of I.hok e
    have hz : vs.length ≤ sizeLine := by rw [← rel.length]; exact z
    have hl : (putK kvs k v).length ≤ sizeLine := by have := length_putK kvs k v; omega
    refine wpAny_setItem_pairs (hsz := hz) (kV_is ry) dd fun h' dd' hs => h _ ?_
    have he : ∃ q, h'.get? a = some q := let ⟨q, _, _, hq, _⟩ := dd'; ⟨q, hq⟩
    exact d_write I (by rw [e]; exact True.intro) hs he (dk_new hl hd (rel.put k rv) dd')
  · subst ey eH
    cases (show u = Value.ref b from ry)
    obtain ⟨z, hd, xs, rel, dd⟩ := dt_of I.hok e
    have hz : xs.length ≤ sizeLine := by rw [← Paired.length rel]; exact z
    have hl : (putK kvs k v).length ≤ sizeLine := by have := length_putK kvs k v; omega
    refine wpAny_setItem_heap (hsz := hz) (tupleKind_room_in1 hu) (key_of I.hok eb) dd fun h' dd' hs => h _ ?_
    obtain ⟨q, es, ep, hq, h2, h3, h4, _, h5⟩ := dd'
    refine d_write I (by rw [e]; exact True.intro) hs ⟨q, hq⟩ ⟨hl, hd, _, (rel.put k eb rv).keeps fun c ys ec => ?_, q, es, ep, hq, h2, h3, h4, h5⟩
    rw [upd_ne (ne_of ec e (fun z => nomatch z))]
    exact ec
end

section
variable {X : Cx} {pins : List (Addr × Obj)} {σ : St} {H : Hp} {s : Shared} {a : Addr} {kvs : List (Key × V)} {k : Key} {u : Value} {A : Around} {E : Value → Shared → Prop}
/-- d.pop(k[, x]), there -/
theorem d_pop {v : V} {more : List Value} {Q : Value → Shared → Prop} (I : Inv X pins σ H s) (e : H a = some (.dK kvs)) (ry : RelV (kV k) u) (l : valV kvs k = some v) (hm : more = [] ∨ ∃ x, more = [x])
    (h : ∀ w' s', Inv X pins σ (upd H a (.dK (dropK kvs k))) s' → RelV v w' → Q w' s') : wpAny (model X.prog X.w) A (call (.builtin "dict.pop") (.ref a :: u :: more)) Q E s := by
  obtain ⟨z, hd, vs, rel, dd⟩ := dk_of I.hok e
  obtain ⟨w', hw, rw'⟩ := RelO.some_of (v := v) (o := valueAt vs k) (by rw [← l]; exact rel.val k)
  have hp : (keyPart u).isSome = true := by
    cases k with
    | inl i => obtain ⟨t, q⟩ := (show ∃ t, u = Value.int i t from ry); subst q; rfl
    | inr x => obtain ⟨t, q⟩ := (show ∃ t, u = Value.str x t from ry); subst q; rfl
  have ha : argsOk "dict.pop" ⟨.ref a :: u :: more, []⟩ := by
    rcases hm with q | ⟨x, q⟩
    · subst q; exact PySem.F.args_dict_pop_2 _ _
    · subst q; exact PySem.F.args_dict_pop_3 _ _ _
  refine call_meetsIn PySem.F.slot_dict_pop dd.typeIs PySem.F.entry_dict_pop ha (meets_dict_pop_there (mixKind X.prog X.w) a (kV_is ry) more hm hp)
    ⟨vs, w', dd, by rw [← rel.length]; exact z, hw, fun h' dd' hs => h w' _ ?_ rw'⟩
  have he : ∃ q, h'.get? a = some q := let ⟨q, _, _, hq, _⟩ := dd'; ⟨q, hq⟩
  exact d_write I (by rw [e]; exact True.intro) hs he (dk_new (Nat.le_trans (dropK_le kvs k) z) hd (rel.drop k) dd')
/-- len(d) -/
theorem d_len {Q : Value → Shared → Prop} (I : Inv X pins σ H s) (e : Rd H a (.dK kvs)) (h : ∀ t s', Inv X pins σ H s' → Q (.int kvs.length t) s') : wpAny (model X.prog X.w) A (call (.builtin "len") [.ref a]) Q E s := by
  obtain ⟨z, hd, vs, rel, dd⟩ := dk_rd I.hok e
  refine call_len_dict hd dd (by rw [← rel.length]; rw [sizeLine_eq] at z; omega) ?_
  rw [← rel.length]
  exact h _ _ (I.tok _)
end


/-! ### readings and rules -/
/-- the element of a subscription, not a slice -/
def NoSl (i : Expr) : Prop := ∀ ov iv, subscripted i false ov iv = operate [ov, iv] (getItem ov iv)
theorem dict_typeIs {X : Cx} {pins : List (Addr × Obj)} {σ : St} {H : Hp} {s : Shared} {a : Addr} {y : V} {o : Option V} (I : Inv X pins σ H s) (g : DGet H a y o) : s.TypeIs (.ref a) "dict" := by
  rcases g with ⟨kvs, k, e, _, _⟩ | ⟨kvs, k, b, e, _, _, _⟩
  · obtain ⟨_, _, vs, _, dd⟩ := dk_rd I.hok e
    exact dd.typeIs
  · obtain ⟨_, _, xs, _, dd⟩ := dt_rd I.hok e
    exact dd.typeIs
/-- d[y] -/
def tDGet (td ty : TE) : TE := fun σ H Q => td σ H fun x H1 => ty σ H1 fun y H2 => ∃ a v, x = .ref a ∧ DGet H2 a y (some v) ∧ Q v H2
/-- y in d, y not in d -/
def tDIn (ty td : TE) : TE := fun σ H Q => ty σ H fun y H1 => td σ H1 fun x H2 => ∃ a o, x = .ref a ∧ DGet H2 a y o ∧ Q (.bl o.isSome) H2
def tDNotIn (ty td : TE) : TE := fun σ H Q => ty σ H fun y H1 => td σ H1 fun x H2 => ∃ a o, x = .ref a ∧ DGet H2 a y o ∧ Q (.bl (!o.isSome)) H2
/-- d[y] = v -/
def sDPut (td ty tv : TE) : TS := fun D σ H => tv σ H fun v H1 => td σ H1 fun x H2 => ty σ H2 fun y H3 => ∃ a H4, x = .ref a ∧ DPut H3 a y v H4 ∧ D.nx σ H4
/-- d[y] op= v -/
def sDAug (td ty tv : TE) (rd : V → V → Hp → VK → Prop) : TS := fun D σ H => td σ H fun x H1 => ty σ H1 fun y H2 => ∃ a v, x = .ref a ∧ DGet H2 a y (some v) ∧
  tv σ H2 fun y2 H3 => rd v y2 H3 fun z H4 => ∃ H5, DPut H4 a y z H5 ∧ D.nx σ H5
/-- del d[y] -/
def sDDel (td ty : TE) : TS := fun D σ H => td σ H fun x H1 => ty σ H1 fun y H2 => ∃ a kvs k, x = .ref a ∧ H2 a = some (.dK kvs) ∧ y = kV k ∧ (valV kvs k).isSome = true ∧ D.nx σ (upd H2 a (.dK (dropK kvs k)))

section
variable {X : Cx} {o i e value : Expr} {pos pos' tpos : Pos} {td ty tv : TE}
end


/-! ### displays -/
/-- {}, to be a dict of the kind that is wanted -/
def tDNewK : TE := fun _ H Q => ∀ p, H p = none → Q (.ref p) (upd H p (.dK []))
def tDNewT : TE := fun _ H Q => ∀ p, H p = none → Q (.ref p) (upd H p (.dT []))
section
variable {X : Cx} {pos : Pos}
end

/-- the pairs of a display, from the left -/
def tPairs : List (TE × TE) → St → Hp → (List (V × V) → Hp → Prop) → Prop
  | [], _, H, Q => Q [] H
  | (tk, tv) :: r, σ, H, Q => tk σ H fun x H1 => tv σ H1 fun y H2 => tPairs r σ H2 fun ps H3 => Q ((x, y) :: ps) H3
abbrev VV : List (V × V) → List (Value × Value) → Prop := Paired fun p q => RelV p.1 q.1 ∧ RelV p.2 q.2
def PPs (X : Cx) (pos : Pos) (keys : List (Option Expr)) (values : List Expr) (trs : List (TE × TE)) : Prop :=
  ∀ (pins : List (Addr × Obj)) (s : Shared) (σ : St) (H : Hp) (Q : List (V × V) → Hp → Prop), Inv X pins σ H s → tPairs trs σ H Q →
    wpAny (model X.prog X.w) X.A (evalPairs (pairTrees keys values X.env pos)) (fun vs s' => ∃ ps H', Inv X pins σ H' s' ∧ VV ps vs ∧ Q ps H') X.xe s
def mergeK (kvs more : List (Key × V)) : List (Key × V) := more.foldl (fun acc kv => putK acc kv.1 kv.2) kvs
theorem KV.merge : ∀ {more : List (Key × V)} {rs : List (Key × Value)} {kvs : List (Key × V)} {vs : List (Key × Value)}, KV more rs → KV kvs vs → KV (mergeK kvs more) (merged vs rs) := by
  intro more rs kvs vs r
  unfold KV at r
  induction r generalizing kvs vs with
  | nil => intro q; exact q
  | @cons p q ps qs h t ih =>
    intro r0
    have e : KV (putK kvs p.1 p.2) (stored vs q.1 q.2) := by
      have := r0.put p.1 h.2
      rw [← h.1]; exact this
    exact ih e
theorem length_mergeK : ∀ (more kvs : List (Key × V)), (mergeK kvs more).length ≤ kvs.length + more.length
  | [], kvs => by show kvs.length ≤ kvs.length + 0; omega
  | p :: r, kvs => by
    have h1 := length_mergeK r (putK kvs p.1 p.2)
    have h2 := length_putK kvs p.1 p.2
    show (mergeK (putK kvs p.1 p.2) r).length ≤ _
    rw [List.length_cons]; omega
/-- {k: v, ..} with keys ints and texts; the new dict stands empty while the pairs are made -/
def tDisp (trs : List (TE × TE)) : TE := fun σ H Q => ∀ p, H p = none → tPairs trs σ (upd H p (.dK [])) fun ps H2 => H2 p = some (.dK []) ∧ ∃ kvs : List (Key × V), ps = kvs.map (fun kv => (kV kv.1, kv.2)) ∧ kvs.length ≤ 15 ∧ Q (.ref p) (upd H2 p (.dK (mergeK [] kvs)))
/-! ### methods -/
/-- a method call o.m(e) of a built-in, with one argument: what must be seen of the text -/
structure M1 (X : Cx) (o : Expr) (m : Str) (apos : Pos) (e : Expr) (cpos : Pos) : Prop where
  base : attributeBase o m X.env (eval o X.env) = eval o X.env
  few : ((backTo cpos (starEach [e] X.env)).all (fun x => !x.1) && (backToKw cpos (keywordEach [] X.env)).all (fun x => x.1.isSome)
    && decide (([e] : List Expr).length + ([] : List Keyword).length + (if ([] : List Keyword).isEmpty then 0 else 1) < 30)) = true
  line : (apos.endLine == cpos.line) = true
  trees : backTo cpos (starEach [e] X.env) = [(false, eval e X.env)]
structure M2 (X : Cx) (o : Expr) (m : Str) (apos : Pos) (e f : Expr) (cpos : Pos) : Prop where
  base : attributeBase o m X.env (eval o X.env) = eval o X.env
  few : ((backTo cpos (starEach [e, f] X.env)).all (fun x => !x.1) && (backToKw cpos (keywordEach [] X.env)).all (fun x => x.1.isSome)
    && decide (([e, f] : List Expr).length + ([] : List Keyword).length + (if ([] : List Keyword).isEmpty then 0 else 1) < 30)) = true
  line : (apos.endLine == cpos.line) = true
  trees : backTo cpos (starEach [e, f] X.env) = [(false, eval e X.env), (false, eval f X.env)]

/-- a is a dict, whatever its keys -/
def IsD (H : Hp) (a : Addr) : Prop := (∃ kvs, Rd H a (.dK kvs)) ∨ ∃ kvs, Rd H a (.dT kvs)
section
variable {X : Cx} {pins : List (Addr × Obj)} {σ : St} {H : Hp} {s : Shared} {a : Addr} {y d : V} {u r : Value} {o : Option V} {A : Around} {E : Value → Shared → Prop}
end

def tDGet1 (td ty : TE) : TE := fun σ H Q => td σ H fun x H1 => ∃ a, x = .ref a ∧ IsD H1 a ∧ ty σ H1 fun y H2 => ∃ o, DGet H2 a y o ∧ Q (o.getD .non) H2
def tDGet2 (td ty tx : TE) : TE := fun σ H Q => td σ H fun x H1 => ∃ a, x = .ref a ∧ IsD H1 a ∧ ty σ H1 fun y H2 => tx σ H2 fun z H3 => ∃ o, DGet H3 a y o ∧ Q (o.getD z) H3
/-- d.pop(k): there; d.pop(k, x): there or not -/
def tDPop1 (td ty : TE) : TE := fun σ H Q => td σ H fun x H1 => ∃ a, x = .ref a ∧ IsD H1 a ∧ ty σ H1 fun y H2 => ∃ kvs k v, H2 a = some (.dK kvs) ∧ y = kV k ∧ valV kvs k = some v ∧ Q v (upd H2 a (.dK (dropK kvs k)))
def tDPop2 (td ty tx : TE) : TE := fun σ H Q => td σ H fun x H1 => ∃ a, x = .ref a ∧ IsD H1 a ∧ ty σ H1 fun y H2 => tx σ H2 fun z H3 => ∃ kvs k, H3 a = some (.dK kvs) ∧ y = kV k ∧
  (∀ v, valV kvs k = some v → Q v (upd H3 a (.dK (dropK kvs k)))) ∧ (valV kvs k = none → Q z H3)
section
variable {X : Cx} {o e f : Expr} {apos cpos : Pos} {td ty tx : TE}
end

/-! ### dict(d): a copy -/
section
variable {X : Cx} {pins : List (Addr × Obj)} {σ : St} {H : Hp} {s : Shared} {a : Addr} {kvs : List (Key × V)} {A : Around} {E : Value → Shared → Prop}
end


section
variable {X : Cx} {pins : List (Addr × Obj)} {σ : St} {H : Hp} {s : Shared} {a : Addr} {y : V} {u : Value} {A : Around} {E : Value → Shared → Prop}
end
end L2
namespace L2
open PySem PySem.Spec PyProof.Rows
section
variable {X : Cx}
/-- len of a dict -/
theorem call_lenD : CallR X (.builtin "len") (fun xs H Q => ∃ a kvs, xs = [V.ref a] ∧ H a = some (.dK kvs) ∧ Q (.int kvs.length) H) := by
  intro pins s σ H xs us Q I r h
  obtain ⟨a, kvs, rfl, ha, q⟩ := h
  obtain ⟨u, rfl, ru⟩ := vals1 r
  cases ru
  exact d_len I (.inl ha) fun t s' I' => ⟨.int kvs.length, H, I', ⟨t, rfl⟩, q⟩
end
/-! ### a dict's pairs: keys that differ -/
section
variable {κ : Type} [DecidableEq κ]
theorem valV_in {kvs : List (κ × V)} {k : κ} {v : V} (h : valV kvs k = some v) : k ∈ kvs.map (·.1) := by
  have q : (kvs.any fun kv => decide (kv.1 = k)) = true := by
    rw [valV_any, h]
    all_goals rfl
  obtain ⟨p, hp, e⟩ := List.any_eq_true.mp q
  exact List.mem_map.mpr ⟨p, hp, of_decide_eq_true e⟩
end
end L2


set_option Elab.async false
set_option linter.all false
set_option maxRecDepth 100000
/-! MY LAYER, 14: own classes in one word each: a method with its promise, a class that is made -/
namespace L2
open PySem PySem.Spec PyProof.Rows
/-- a method of the text, with its promise -/
structure Mf (P : Program) (w : World) (K : PySem.W.Frag) (mg : Str → Option Value) (base : Heap) (k : Nat) (C : Addr) (m : Str) (ps : List Str) (sp : Sp) : Prop where
  ex : ∃ f fd, FnOk P w K mg base CX0 k f fd ps sp ∧ Meth K C m f ∧ Binds K fd ps []
/-- a class's __init__, with its promise -/
structure Cf (P : Program) (w : World) (K : PySem.W.Frag) (mg : Str → Option Value) (base : Heap) (k : Nat) (C : Addr) (x : Str) (ps : List Str) (sp : Sp) : Prop where
  ex : ∃ f fd, FnOk P w K mg base CX0 k f fd ps sp ∧ Mk K C f ∧ Binds K fd ps [] ∧ mg x = some (.ref C)
/-- what the top has made of a method, of an __init__ -/
structure TopM (K : PySem.W.Frag) (C : Addr) (m qual : Str) (st : Stmt) (ps : List Str) : Prop where
  ex : ∃ f fd, Fun K m qual st f fd ∧ Meth K C m f ∧ Binds K fd ps []
structure TopI (K : PySem.W.Frag) (mg : Str → Option Value) (C : Addr) (x qual : Str) (st : Stmt) (ps : List Str) : Prop where
  ex : ∃ f fd, Fun K "__init__" qual st f fd ∧ Mk K C f ∧ Binds K fd ps [] ∧ mg x = some (.ref C)
section
variable {P : Program} {w : World} {K : PySem.W.Frag} {mg : Str → Option Value} {base : Heap}
end
section
variable {X : Cx} {k j : Nat} {C : Addr} {m x : Str} {ps : List Str} {sp : Sp} {o e : Expr} {es : List Expr} {ta : TE} {t : TA} {p apos pos : Pos} {pl : Sem Bool}
end
end L2

set_option Elab.async false
set_option linter.all false
set_option maxRecDepth 100000
/-! MY LAYER, 15: walks over a dict: it stands frozen while it is walked -/
namespace L2
open PySem PySem.Spec PyProof.Rows
section
variable {X : Cx} {pins : List (Addr × Obj)} {σ : St} {H : Hp} {s : Shared} {d : Addr} {o : Obj} {u : HO}
/-- what is tracked and may change is taken as it stands -/
theorem Inv.freeze (I : Inv X pins σ H s) (e : H d = some u) (mu : Mut (some u)) (ho : s.heap.get? d = some o) : Inv X pins σ (upd H d (.frz o u)) s := by
  have h := I.write (x := d) (e := d) (o := .frz o u) (t' := s.toks) (h' := s.heap) (by rw [e]; exact mu) (.inl rfl) (fun b v _ q => q) ⟨o, ho⟩ ?_
  · exact h
  · refine ⟨ho, (I.hok d u e).stay (fun b v _ q => q) (fun b q => ?_) (fun b xs q => ?_)⟩
    · rw [upd_ne (fun z => by rw [z, e] at q; cases q; exact mu)]; exact q
    · rw [upd_ne (fun z => by rw [z, e] at q; cases q; exact mu)]; exact q
/-- it wasn't frozen when this def began -/
theorem Inv.nofrz (I : Inv X pins σ H s) (e : H d = some u) (mu : Mut (some u)) : ∀ o' u', X.H₀ d ≠ some (.frz o' u') := fun o' u' z => by
  have := I.base.frzs d o' u' z
  rw [e] at this
  cases this
  exact mu
theorem Inv.thaw (I : Inv X pins σ H s) (e : H d = some (.frz o u)) (mu : Mut (some u)) (n : ∀ o' u', X.H₀ d ≠ some (.frz o' u')) : Inv X pins σ (upd H d u) s := by
  have hne : ∀ b, H b = none → b ≠ d := fun b z => ne_of_none (H := H) e z |>.symm
  refine ⟨I.ok, I.os, I.bare, ⟨I.base.keep, I.base.slot, fun b v a1 a2 a3 => ?_, I.base.there, fun b xs q => ?_, fun b o' u' q => ?_, fun b ps q => ?_⟩, I.loc, I.cell, ?_, fun x c q => ?_, fun p hp => ?_, ?_, I.len⟩
  · have := I.base.free b v a1 a2 a3
    rw [upd_ne (hne b this)]; exact this
  · have := I.base.tups b xs q
    rw [upd_ne (fun z => by rw [z, e] at this; cases this)]; exact this
  · have := I.base.frzs b o' u' q
    rw [upd_ne (fun z => by rw [z] at q; exact n o' u' q)]; exact this
  · obtain ⟨more, this⟩ := I.base.tbls b ps q
    refine ⟨more, ?_⟩
    rw [upd_ne (fun z => by rw [z, e] at this; cases this)]; exact this
  · rw [upd_ne (hne _ I.free)]; exact I.free
  · rw [upd_ne (hne _ (I.freeC x c q))]; exact I.freeC x c q
  · obtain ⟨a1, a2, a3⟩ := I.pin p hp
    exact ⟨a1, by rw [upd_ne (hne _ a2)]; exact a2, a3⟩
  · intro b v q
    have own : ∀ c a, H c = some (.own a) → (upd H d u) c = some (.own a) := fun c a q => by rw [upd_ne (fun z => by rw [z, e] at q; cases q)]; exact q
    have tup : ∀ c xs, H c = some (.tup xs) → (upd H d u) c = some (.tup xs) := fun c xs q => by rw [upd_ne (fun z => by rw [z, e] at q; cases q)]; exact q
    by_cases hb : b = d
    · subst hb
      rw [upd_same] at q
      cases q
      obtain ⟨_, h2⟩ := (show ObjOk X.prog X.w H s.heap b (.frz o u) from I.hok b _ e)
      exact h2.stay (fun c v _ q => q) (fun c q => own c b q) tup
    · rw [upd_ne hb] at q
      exact (I.hok b v q).stay (fun c v _ q => q) (fun c q => own c b q) tup
end
/-- an expression behind which a dict that it froze stands free again -/
def tThaw (t : TE) : TE := fun σ H Q => ∃ d u, H d = some u ∧ Mut (some u) ∧ t σ H fun v H' => ∃ o, H' d = some (.frz o u) ∧ Q v (upd H' d u)
theorem pe_thaw {X : Cx} {e : Expr} {t : TE} (h : PE X e t) : PE X e (tThaw t) := by
  intro pins s σ H Q I q
  obtain ⟨d, u, e1, mu, q⟩ := q
  have n := I.nofrz e1 mu
  refine thn (h pins s σ H _ I q) fun v s1 ⟨x, H1, I1, r1, o, e2, q1⟩ => ?_
  exact ⟨x, _, I1.thaw e2 mu n, r1, q1⟩
theorem key_rel {P : Program} {w : World} {k : Key} {v : Value} (h : (mixKind P w).is k v = true) : RelV (kV k) v := by
  rw [mixKind_is] at h
  rcases keyIs_shape h with ⟨i, t, rfl, rfl⟩ | ⟨x, t, rfl, rfl⟩
  · exact ⟨t, rfl⟩
  · exact ⟨t, rfl⟩
/-- list(d): a new list of its keys, as they came -/
def rListD : List V → Hp → VK → Prop := fun xs H Q => ∃ d kvs, xs = [.ref d] ∧ H d = some (.dK kvs) ∧ ∀ l, H l = none → Q (.ref l) (upd H l (.lst (kvs.map fun kv => kV kv.1)))
end L2

set_option Elab.async false
set_option linter.all false
set_option maxRecDepth 100000
/-! MY LAYER, 16: d.values(), d walked; sum of a list -/
namespace L2
open PySem PySem.Spec PyProof.Rows
/-- what stands at d, frozen, is a dict: its epoch -/
theorem Inv.dictF {X : Cx} {pins : List (Addr × Obj)} {σ : St} {H : Hp} {s : Shared} {d : Addr} {o : Obj} {kvs : List (Key × V)} {es : Array DictEntry} {ep : Nat} (I : Inv X pins σ H s) (e : H d = some (.frz o (.dK kvs))) (hd : o.data = .dict es ep) :
    ∃ vs, KV kvs vs ∧ s.heap.DictAt (mixKind X.prog X.w) d vs ep := by
  obtain ⟨ho, _, _, vs, rel, o', es', ep', h1, h2, h3, h4⟩ := (show ObjOk X.prog X.w H s.heap d (.frz o (.dK kvs)) from I.hok d _ e)
  rw [ho] at h1
  cases h1
  rw [hd] at h3
  cases h3
  exact ⟨vs, rel, o, es, ho, h2, hd, h4⟩
theorem kv_get {kvs : List (Key × V)} {vs : List (Key × Value)} (r : KV kvs vs) : ∀ (i : Nat) (k : Key) (x : V), kvs[i]? = some (k, x) → ∃ u, vs[i]? = some (k, u) ∧ RelV x u := by
  unfold KV at r
  induction r with
  | nil => intro i k x h; simp at h
  | @cons p q ps qs h t ih =>
    intro i k x hx
    cases i with
    | zero =>
      have e : p = (k, x) := by simpa using hx
      refine ⟨q.2, ?_, ?_⟩
      · have : q = (k, q.2) := by rw [show k = q.1 by rw [← h.1, e]]
        simpa using this
      · have := h.2; rw [e] at this; exact this
    | succ i => simpa using ih i k x (by simpa using hx)
/-- a dict's values, its keys, in turn -/
def Itv (d : Addr) (o : Obj) (kvs : List (Key × V)) : It :=
  ⟨fun i H => H d = some (.frz o (.dK kvs)) ∧ i < kvs.length, fun i H v H' => H' = H ∧ ∃ k, kvs[i]? = some (k, v), fun i H => H d = some (.frz o (.dK kvs)) ∧ kvs.length ≤ i⟩
def Itk (d : Addr) (o : Obj) (kvs : List (Key × V)) : It :=
  ⟨fun i H => H d = some (.frz o (.dK kvs)) ∧ i < kvs.length, fun i H v H' => H' = H ∧ ∃ k x, kvs[i]? = some (k, x) ∧ v = kV k, fun i H => H d = some (.frz o (.dK kvs)) ∧ kvs.length ≤ i⟩
theorem turn_keys {P : Program} {w : World} {K : PySem.W.Frag} {tg : Expr} {d it : Addr} {o : Obj} {kvs : List (Key × V)} {es : Array DictEntry} {ep : Nat} (hd : o.data = .dict es ep) : Turn P w K tg (Itk d o kvs) [it] it (fun i h => h.IsKeyIter it d i kvs.length ep) where
  mem := by simp
  obj := fun i h st b hb => by
    have e : b = it := by simpa using hb
    subst e
    obtain ⟨o, e, c, d⟩ := st
    exact ⟨o, e, fun v z => by rw [d] at z; cases z⟩
  keep := fun i h h' st k => by
    obtain ⟨o, e, r⟩ := st
    exact ⟨o, k it (by simp) o e, r⟩
  item := by
    intro X hP hw hK hc i pins s σ H E I hf st hg
    subst hP hw hK
    obtain ⟨f0, f1, f2, f3, f4, f5⟩ := hf it (by simp)
    obtain ⟨hfz, hi⟩ := hg
    obtain ⟨vs, rel, da⟩ := I.dictF hfz hd
    have hl : kvs.length = vs.length := rel.length
    obtain ⟨u, hu, ru⟩ := kv_get rel i kvs[i].1 kvs[i].2 (List.getElem?_eq_getElem hi)
    refine wpAny_pyNext_dict_item (by rw [← hl]; exact st) da hu fun key h' hkey st' sb => ?_
    rw [← hl] at st'
    have I1 : Inv X pins σ H { s with heap := h' } := I.turned (t' := s.toks) (fun b o hb e => (sb.2 b hb).trans e) f0 f1 f3 f4 f5
    obtain ⟨o1, e1, c1, d1⟩ := id st'
    exact ⟨_, rfl, go_of (s := { s with heap := h' }) e1 c1 d1 (by decide) ⟨kV kvs[i].1, H, I1, key_rel hkey, ⟨rfl, kvs[i].1, kvs[i].2, List.getElem?_eq_getElem hi, rfl⟩, st', fun b hb => (hf b hb).1⟩⟩
  done := by
    intro X hP hw hK hc i pins s σ H E I hf st hg
    subst hP hw hK
    obtain ⟨f0, f1, f2, f3, f4, f5⟩ := hf it (by simp)
    obtain ⟨hfz, hi⟩ := hg
    obtain ⟨vs, rel, da⟩ := I.dictF hfz hd
    have hl : kvs.length = vs.length := rel.length
    exact wpAny_pyNext_dict_end (I.ok.hd hc) (by rw [← hl]; exact st) da (List.getElem?_eq_none (by omega)) fun h' eb => ⟨rfl, I.turned (t' := s.toks) (fun b o hb e => eb b o hb e) f0 f1 f3 f4 f5⟩
  self := fun _ _ _ _ _ st h => wpAny_pyIter_keyiter st h
/-- for k in d: the dict stands frozen behind it -/
def iKeys (tl : TE) : TI := fun σ H R => tl σ H fun x H1 => ∃ d kvs, x = .ref d ∧ H1 d = some (.dK kvs) ∧ ∀ o, R (Itk d o kvs) (upd H1 d (.frz o (.dK kvs)))
theorem pi_keys {X : Cx} {tg l : Expr} {tl : TE} (hl : PE X l tl) : PI X tg l (iKeys tl) := by
  intro pins s σ H R I h
  refine thn (hl pins s σ H _ I h) fun v s1 ⟨x, H1, I1, r1, q1⟩ => ?_
  obtain ⟨d, kvs, e, hd, q⟩ := q1
  subst e
  cases r1
  obtain ⟨z, lo, vs, rel, o, es, ep, h1, h2, h3, h4⟩ := (show ObjOk X.prog X.w H1 s1.heap d (.dK kvs) from I1.hok d _ hd)
  have hlen : kvs.length = vs.length := rel.length
  have I2 := I1.freeze hd True.intro h1
  refine wpAny_pyIter_dict (knd := mixKind X.prog X.w) (kvs := vs) (ep := ep) lo ⟨o, es, h1, h2, h3, h4⟩ ?_
  rw [← hlen]
  refine ⟨s1.heap.objs.size, [s1.heap.objs.size], _, Itk d o kvs, upd H1 d (.frz o (.dK kvs)), rfl, I2.kept (t' := s1.toks) fun b o e => Heap.get?_push_of_some _ e, turn_keys h3, ⟨_, Heap.get?_push_size _ rfl, rfl, rfl⟩, fun b hb => ?_, q o⟩
  have e : b = s1.heap.objs.size := by simpa using hb
  subst e
  exact I2.fpOk (Nat.le_refl _) (I2.hok.fresh (Nat.le_refl _))
end L2

set_option Elab.async false
set_option linter.all false
set_option maxRecDepth 100000
/-! MY LAYER, 17: sorted(d), sum(xs), d.values() -/
namespace L2
open PySem PySem.Spec PyProof.Rows
/-- sorted(d) of a dict by ints -/
def rSortedD : List V → Hp → VK → Prop := fun xs H Q => ∃ d kvs ns, xs = [.ref d] ∧ H d = some (.dK kvs) ∧ kvs.map (·.1) = ns.map Sum.inl ∧ ns.length < 64 ∧
  ∀ (l : Addr) (ns' : List Int), H l = none → ns'.Perm ns → ns'.Pairwise (· ≤ ·) → Q (.ref l) (upd H l (.lst (ns'.map V.int)))
/-- sum of a list of small ints -/
def rSumL (K : PySem.W.Frag) : List V → Hp → VK → Prop := fun vs H Q => ∃ (p : Addr) (ns : List Int), vs = [.ref p] ∧ SqL K H p (ns.map V.int) ∧ ns.length ≤ 1000 ∧ (∀ n ∈ ns, 0 ≤ n ∧ n ≤ 1000000) ∧ Q (.int ns.sum) H
/-- for v in d.values() -/
def iVals (tl : TE) : TI := fun σ H R => tl σ H fun x H1 => ∃ d kvs, x = .ref d ∧ H1 d = some (.dK kvs) ∧ ∀ o, R (Itv d o kvs) (upd H1 d (.frz o (.dK kvs)))
end L2

set_option Elab.async false
set_option linter.all false
set_option maxRecDepth 100000
/-! MY LAYER, 18: d.items() walked by a tuple target -/
namespace L2
open PySem PySem.Spec PyProof.Rows
/-- a dict's pairs in turn, a new tuple each -/
def Iti (d : Addr) (o : Obj) (kvs : List (Key × V)) : It :=
  ⟨fun i H => H d = some (.frz o (.dK kvs)) ∧ i < kvs.length,
   fun i H v H' => ∃ p k x, H p = none ∧ v = .ref p ∧ kvs[i]? = some (k, x) ∧ H' = upd H p (.tup [kV k, x]),
   fun i H => H d = some (.frz o (.dK kvs)) ∧ kvs.length ≤ i⟩
/-- for k, v in d.items() -/
def iItems (tl : TE) : TI := fun σ H R => tl σ H fun x H1 => ∃ d kvs, x = .ref d ∧ H1 d = some (.dK kvs) ∧ ∀ o, R (Iti d o kvs) (upd H1 d (.frz o (.dK kvs)))
end L2

set_option Elab.async false
set_option linter.all false
set_option maxRecDepth 100000
/-! MY LAYER, 39: {k: v for ..} of dicts by ints and texts -/
namespace L2
open PySem PySem.Spec PyProof.Rows
/-- what the turns of {k: v for ..} ask -/
def DictGoK (J : It) (D : Addr) (k : Nat) (σ : St) (H1 : Hp) (g : TG) (tc : TT) (tk te : TE) (Q : VK) : Prop :=
  ∃ W : Nat → Nat → List (Key × V) → St → Hp → Prop, (∃ m, W 0 m [] (σ ++ List.replicate k none) (upd H1 D (.dK []))) ∧
    ∀ i m ys σ2 H2, W i m ys σ2 H2 → (J.stop i H2 ∧ Q (.ref D) H2) ∨
      (J.go i H2 ∧ ∃ N : List (Key × V) → St → Hp → Prop, (∀ ys' σ' H', N ys' σ' H' → ∃ m', m' < m ∧ W (i + 1) m' ys' σ' H') ∧ ∀ x H3, J.yld i H2 x H3 → g x σ2 H3 fun σ4 H4 => tc σ4 H4 fun b H5 =>
        if b = true then tk σ4 H5 fun kv H6 => te σ4 H6 fun y H7 => ∃ k : Key, kv = kV k ∧ H7 D = some (.dK ys) ∧ ys.length < sizeLine ∧ N (putK ys k y) σ4 (upd H7 D (.dK (putK ys k y))) else N ys σ4 H5)
def tKComp (n : Nat) (wi : TI) (g : TG) (tc : TT) (tk te : TE) : TE := fun σ H Q => wi σ H fun J H1 => ∀ D, H1 D = none → DictGoK J D n σ H1 g tc tk te Q
section
variable {X : Cx} {N N' : List Str} {o c : Scope}
end
section
variable {X : Cx}
def rIxK : R2 := fun x y H Q => ∃ d kvs k v, x = .ref d ∧ y = kV k ∧ H d = some (.dK kvs) ∧ valV kvs k = some v ∧ Q v H
end
end L2

set_option Elab.async false
set_option linter.all false
set_option maxRecDepth 100000
/-! MY LAYER, 40: dict() of a list of pairs, dicts likened with an empty one, dicts in gen.py's words -/
namespace L2
open PySem PySem.Spec PyProof.Rows
theorem lookup_list_keys : typeLookup (.type "list") "keys" = pure none := by rw [typeLookup_type, builtinLookup_eq_fast]; kernel_rfl
set_option maxHeartbeats 4000000 in
theorem getAttr?_keys_list {prog : Program} {w : World} {A : Around} {E : Value → Shared → Prop} {s : Shared} {a : Addr} {o : Obj} {xs : Array Value} {k : Nat} {Q : Option Value → Shared → Prop}
    (hx : s.heap.get? a = some o) (hc : o.cls = .type "list") (hdat : o.data = .seq xs k) (hd : o.dict = none) (hA : A.handled = none)
    (h : ∀ h' tk e, Heap.NewExcOf s.heap h' e "AttributeError" → Q none { s with heap := h', toks := tk }) :
    wpAny (model prog w) A (getAttr? (.ref a) "keys") Q E s := by
  obtain ⟨c, dct, dat, sl⟩ := o
  simp only at hc hdat hd
  subst hc hdat hd
  obtain ⟨hp, g, d, tk, os⟩ := s
  have hT : ∀ tk', (⟨hp, g, d, tk', os⟩ : Shared).TypeIs (.ref a) "list" := fun _ => ⟨_, hx, rfl⟩
  have f1 := sub_AttributeError
  have f3 := F.slot_list_getattribute.lookup
  have f4 := F.slot_list_getattribute.bind (.ref a)
  have f5 := am_list_getattr_none
  unfold getAttr? getAttrBy? getAttrBy
  repeat (any_goals (first | assumption | exact hT _ | ((with_reducible show wpAny _ _ (call (Value.builtin "list.__getattribute__") _ _) _ _ _); refine call_meets F.slot_list_getattribute (hT _) am_entry_list_getattribute (F.args_list_getattribute_2 _ _) (meets_getattribute_miss_list a xs k sl "keys" _ lookup_list_keys (by decide) (by size_fits)) ⟨hx, hA, fun h' tk' e hx' => ?_⟩) | wp_step))
  obtain ⟨t', u', he⟩ := hx'.there
  show wpAny _ _ (getattributeRaised _ _ _ _ _ _ _) _ _ _
  unfold getattributeRaised
  repeat (any_goals (first | assumption | wp_step))
  exact h _ _ _ hx'.of
theorem entry_dict_update_loop : entryFor table "dict.update.loop" = some Builtin.«dict.update.loop» := entryFor_of_tree (by kernel_rfl)
theorem plain_dict_update_loop : plainId "dict.update.loop" = true := by decide +kernel
section
variable {prog : Program} {w : World} {A : Around} {R : Result → Shared → Prop} {I : Addr} {fp wr : List Addr} {G : Array GenState → Array GenState → Prop} {n : Nat} {P : Nat → Value → Prop} {St : Nat → Shared → Prop} {K : Type} [DecidableEq K] {knd : KeyKind prog w K}
theorem merged_len (more : List (K × Value)) : ∀ kvs : List (K × Value), (merged kvs more).length ≤ kvs.length + more.length := by
  induction more with
  | nil => intro kvs; exact Nat.le_refl _
  | cons x r ih =>
    intro kvs
    have h := ih (stored kvs x.1 x.2)
    have h2 : (stored kvs x.1 x.2).length ≤ kvs.length + 1 := by
      unfold stored
      split
      · rw [List.length_map]; omega
      · rw [List.length_append]; exact Nat.le_refl _
    show (merged (stored kvs x.1 x.2) r).length ≤ _
    rw [List.length_cons]
    omega
theorem codeAny_dict_update_loop (W : WalksS prog w A.in1 I fp wr G n P St) (D : Addr) (hDf : D ∉ fp) (ks : List (K × Value)) (hn : ks.length = n) (As : Nat → Addr) (hAs : ∀ j, j < n → As j ≠ D ∧ As j ∉ wr)
    (hval : ∀ i v, P i v → v = .ref (As i)) (hsz : n ≤ sizeLine) :
    ∀ (k i : Nat) (z : Int) (s : Shared), n - i = k → i ≤ n → St i s → s.heap.DictOf knd D (merged [] (ks.take i)) →
      (∀ j (hj : j < n), ∃ ky, IsTup s.heap (As j) #[ky, (ks[j]'(hn ▸ hj)).2] ∧ knd.is (ks[j]'(hn ▸ hj)).1 ky = true) →
      (∀ s', Moved (D :: wr) G s s' → s'.heap.DictOf knd D (merged [] ks) → R (.ok (.ret .none)) s') →
      codeAny (model prog w) A (.builtin "dict.update.loop" ⟨[.ref D, .ref I, rawInt z, .none], []⟩) R s := by
  have hDw : D ∉ wr := fun h => hDf (W.sub _ h)
  have hsub : ∀ b ∈ wr, b ∈ D :: wr := fun b hb => List.mem_cons_of_mem _ hb
  intro k
  induction k with
  | zero =>
    intro i z s hk hi hst hS hT hR
    have hin : i = n := by omega
    subst hin
    refine codeAny_builtin entry_dict_update_loop ?_
    rw [Around.under_plainId plain_dict_update_loop _]
    show wpAny _ A.in1 (pyNext (.ref I) >>= _) _ _ s
    refine wpAny_bind (W.done s _ _ hst fun s' hm => ?_)
    show wpAny _ A.in1 (Builtin.Dict.addKeywords D [] >>= fun _ => ret Value.none) _ _ s'
    refine wpAny_bind (wpAny_pure (wpAny_pure (hR s' (hm.mono hsub) ?_)))
    rw [List.take_of_length_le (by omega)] at hS
    obtain ⟨o, es, ep, ho, rest⟩ := hS
    exact ⟨o, es, ep, hm.heap D _ hDw ho, rest⟩
  | succ k ih =>
    intro i z s hk hi hst hS hT hR
    have hlt : i < n := by omega
    refine codeAny_builtin entry_dict_update_loop ?_
    rw [Around.under_plainId plain_dict_update_loop _]
    show wpAny _ A.in1 (pyNext (.ref I) >>= _) _ _ s
    refine wpAny_bind (W.item i s _ _ hlt hst fun v s' hP hst' hm => ?_)
    have ev := hval i v hP
    subst ev
    obtain ⟨ky, ht, hky⟩ := hT i hlt
    have ht' : IsTup s'.heap (As i) #[ky, (ks[i]'(hn ▸ hlt)).2] := by
      obtain ⟨o, ho, r⟩ := ht
      exact ⟨o, hm.heap _ _ (hAs i hlt).2 ho, r⟩
    have hS' : s'.heap.DictOf knd D (merged [] (ks.take i)) := by
      obtain ⟨o, es, ep, ho, rest⟩ := hS
      exact ⟨o, es, ep, hm.heap D _ hDw ho, rest⟩
    show wpAny _ A.in1 (holding [Value.ref (As i)] _ >>= _) _ _ s'
    refine wpAny_bind (wpAny_holding ?_)
    obtain ⟨ot, hot, hct, nt, hdt⟩ := id ht'
    refine wpAny_bind ?_
    have hpair : wpAny (model prog w) A.in1 (Builtin.Dict.pairItems (Value.ref (As i))) (fun p s2 => p = [ky, (ks[i]'(hn ▸ hlt)).2] ∧ s2 = s') (fun e s' => False) s' := by
      unfold Builtin.Dict.pairItems
      refine wpAny_bind (wpAny_typeOf (T := "tuple") ⟨ot, hot, hct⟩ ?_)
      rw [if_pos (by decide)]
      exact wpAny_bind (wpAny_seqItems hot hdt (wpAny_pure ⟨rfl, rfl⟩))
    refine wpAny_tryCatch (wpAny_mono hpair (fun p s2 h2 => ?_) fun _ _ z => z.elim)
    obtain ⟨rfl, rfl⟩ := h2
    have hle : (merged [] (ks.take i)).length ≤ sizeLine := by
      have h1 := merged_len (ks.take i) []
      rw [List.length_take] at h1
      simp only [List.length_nil] at h1
      omega
    refine wpAny_holding (wpAny_dictSet_pairs hky hS' (fun h' hd' hs => ?_) hle)
    have hd2 : h'.DictOf knd D (merged [] (ks.take (i + 1))) := by
      rw [merged_take_succ [] ks i _ (List.getElem?_eq_getElem (hn ▸ hlt))]
      exact hd'
    refine wpAny_pure ⟨plainId_quiet plain_dict_update_loop _, ih (i + 1) (z + 1) _ (by omega) hlt (W.frame _ s2 _ _ hst' (Nat.le_succ _) fun b hb o e => ?_) hd2 (fun j hj => ?_) fun s'' hm'' hS'' => ?_⟩
    · rw [hs.2 b (fun h : b = D => hDf (by rw [← h]; exact hb))]; exact e
    · obtain ⟨kj, ⟨o, ho, r⟩, hkj⟩ := hT j hj
      refine ⟨kj, ⟨o, ?_, r⟩, hkj⟩
      have hnd := (hAs j hj).1
      show h'.get? (As j) = some o
      rw [hs.2 _ hnd]
      exact hm.heap _ _ (hAs j hj).2 ho
    · refine hR s'' (Moved.trans W.gtrans ((hm.mono hsub).then_heap (Nat.le_succ _) fun b o hb e => ?_) hm'') hS''
      rw [hs.2 b (fun h : b = D => hb (by rw [h]; exact List.mem_cons_self))]; exact e
end
section
variable {prog : Program} {w : World} {A : Around} {E : Value → Shared → Prop} {s : Shared} {K : Type} [DecidableEq K] {knd : KeyKind prog w K}
theorem call_dict_list {l : Addr} {items : Array Value} {ks : List (K × Value)} {As : Nat → Addr} {Q : Value → Shared → Prop} (hh : A.handled = none) (hl : PlainL s.heap l items) (hn : ks.length = items.size) (hsz : items.size ≤ sizeLine)
    (hval : ∀ (i : Nat) (v : Value), items[i]? = some v → v = .ref (As i)) (ht : ∀ j (hj : j < items.size), ∃ ky, IsTup s.heap (As j) #[ky, (ks[j]'(hn ▸ hj)).2] ∧ knd.is (ks[j]'(hn ▸ hj)).1 ky = true)
    (h : ∀ h' tk, h'.DictOf knd s.heap.objs.size (merged [] ks) → (∀ b o, s.heap.get? b = some o → h'.get? b = some o) → Q (.ref s.heap.objs.size) { s with heap := h', toks := tk }) :
    wpAny (model prog w) A (call (.type "dict") [.ref l]) Q E s := by
  refine callType_codes (Q₁ := fun obj s₁ => obj = .ref s.heap.objs.size ∧ s₁ = { s with heap := s.heap.push { cls := .type "dict", data := .dict #[] } }) F.kt_called_dict (F.kt_typeCall_dict_1 _) F.entry_dict_init (kt_code_dict_new _ ⟨rfl, rfl⟩) ?_
  rintro obj s₁ ⟨rfl, rfl⟩
  have hnew : (s.heap.push { cls := .type "dict", data := .dict #[] }).DictOf knd s.heap.objs.size [] := Heap.DictOf.new s.heap
  obtain ⟨ol, nl, hol, hcl, hdl, hdat⟩ := hl
  have hll : l < s.heap.objs.size := Heap.lt_size hol
  have hol' : (s.heap.push { cls := .type "dict", data := .dict #[] }).get? l = some ol := Heap.get?_push_of_some _ hol
  refine ⟨hnew.typeIs, F.args_dict_init_2 _ _, ?_⟩
  unfold Builtin.«dict.__init__»
  refine wpAny_bind ?_
  unfold Builtin.Dict.selfAndRest
  refine wpAny_bind (wpAny_notOrdered_dict hnew.typeIs ?_)
  show wpAny _ _ (pure (s.heap.objs.size, [Value.ref l])) _ _ _
  refine wpAny_pure ?_
  show wpAny _ _ (Builtin.Dict.updateFrom "dict.__init__" s.heap.objs.size (.ref l) [] .none) _ _ _
  unfold Builtin.Dict.updateFrom
  refine wpAny_bind (wpAny_typeOf (T := "list") ⟨ol, hol', hcl⟩ ?_)
  rw [if_pos (by decide)]
  refine wpAny_bind (getAttr?_keys_list hol' hcl hdat hdl (by simp [hh]) fun h1 tk e hx => ?_)
  rw [if_pos (by decide)]
  have kp : ∀ b o, (s.heap.push { cls := .type "dict", data := .dict #[] }).get? b = some o → h1.get? b = some o := fun b o z => hx.keeps b o z
  have hl1 : h1.IsList l items := ⟨ol, kp _ _ hol', hcl, nl, hdat⟩
  refine wpAny_bind (wpAny_rule (wpAny_bind (wpAny_pyIter_list hl1 ?_)))
  have hDD : s.heap.objs.size < h1.objs.size := by
    obtain ⟨o, es, ep, ho, _⟩ := hnew
    exact Heap.lt_size (kp _ _ ho)
  have hl1s : l < h1.objs.size := Nat.lt_trans hll hDD
  have hneI : l ≠ h1.objs.size := Nat.ne_of_lt hl1s
  have hDf : s.heap.objs.size ∉ [h1.objs.size, l] := by
    simp only [List.mem_cons, List.not_mem_nil, or_false, not_or]
    exact ⟨Nat.ne_of_lt hDD, Nat.ne_of_gt hll⟩
  refine wpAny_pure ⟨plainId_quiet plain_dict_update_loop _, ?_⟩
  have hh3 : A.in1.in1.handled = none := by simp [hh]
  have k2 : ∀ b o, s.heap.get? b = some o → (h1.push { cls := .type "list_iterator", data := .fields #[.ref l, .int 0 0] }).get? b = some o := fun b o z => Heap.get?_push_of_some _ (kp b o (Heap.get?_push_of_some _ z))
  refine codeAny_dict_update_loop (A := A.in1) (knd := knd) ((Walks.list hh3 _ l hneI items).toS) s.heap.objs.size hDf ks hn As (fun j hj => ?_) hval hsz (items.size - 0) 0 0 _ (by omega) (Nat.zero_le _)
    ⟨⟨_, Heap.get?_push_size _ rfl, rfl, rfl⟩, (hl1.push _)⟩ ?hS0 (fun j hj => ?_) ?hR
  · obtain ⟨ky, ⟨o, ho, _⟩, _⟩ := ht j hj
    have := Heap.lt_size ho
    refine ⟨Nat.ne_of_lt this, ?_⟩
    simp only [List.mem_cons, List.not_mem_nil, or_false]
    exact Nat.ne_of_lt (Nat.lt_trans this hDD)
  case hS0 =>
    obtain ⟨o, es, ep, ho, r⟩ := hnew
    exact ⟨o, es, ep, Heap.get?_push_of_some _ (kp _ _ ho), r⟩
  · obtain ⟨ky, ⟨o, ho, r⟩, hk⟩ := ht j hj
    exact ⟨ky, ⟨o, k2 _ _ ho, r⟩, hk⟩
  case hR =>
    intro s' hm hS'
    obtain ⟨h', g', d', tk', os'⟩ := s'
    have eg : g' = s.gens := hm.gens
    have ed : d' = s.drawn := hm.drawn
    have eo : os' = s.os := hm.os
    subst eg; subst ed; subst eo
    refine ⟨rfl, h h' tk' hS' fun b o e => ?_⟩
    have hb := Heap.lt_size e
    exact hm.heap b o (by simp only [List.mem_cons, List.not_mem_nil, or_false, not_or]; exact ⟨Nat.ne_of_lt hb, Nat.ne_of_lt (Nat.lt_trans hb hDD)⟩) (k2 b o e)
end
/-- dict() of a list of pairs -/
def rDictP (K : PySem.W.Frag) : List V → Hp → VK → Prop := fun xs H Q => ∃ (a : Addr) (ts : List (Addr × Key × V)), xs = [.ref a] ∧ SqL K H a (ts.map fun t => V.ref t.1) ∧ (∀ t ∈ ts, H t.1 = some (.tup [kV t.2.1, t.2.2])) ∧ ts.length ≤ 1000 ∧
  ∀ D, H D = none → Q (.ref D) (upd H D (.dK (mergeK [] (ts.map (·.2)))))
theorem pairs_are {X : Cx} {pins : List (Addr × Obj)} {σ : St} {H : Hp} {s : Shared} (I : Inv X pins σ H s) : ∀ (ts : List (Addr × Key × V)), (∀ t ∈ ts, H t.1 = some (.tup [kV t.2.1, t.2.2])) →
    ∃ ks : List (Key × Value), KV (ts.map (·.2)) ks ∧ ∀ (j : Nat) (t : Addr × Key × V) (kv : Key × Value), ts[j]? = some t → ks[j]? = some kv → ∃ ky, IsTup s.heap t.1 #[ky, kv.2] ∧ (mixKind X.prog X.w).is kv.1 ky = true
  | [], _ => ⟨[], .nil, fun j t kv h _ => by simp at h⟩
  | t :: ts, h => by
    obtain ⟨ks, r, hk⟩ := pairs_are I ts fun x hx => h x (List.mem_cons_of_mem _ hx)
    obtain ⟨its, rv, ht, _⟩ := I.tuple (SqT.of (K := X.K) (h t (by simp)))
    obtain ⟨ky, u, rfl, rk, ru⟩ : ∃ ky u, its = [ky, u] ∧ RelV (kV t.2.1) ky ∧ RelV t.2.2 u := by
      cases rv with
      | cons r1 r2 =>
        cases r2 with
        | cons r3 r4 =>
          cases r4
          exact ⟨_, _, rfl, r1, r3⟩
    refine ⟨(t.2.1, u) :: ks, .cons ⟨rfl, ru⟩ r, fun j x kv h1 h2 => ?_⟩
    cases j with
    | zero =>
      simp only [List.getElem?_cons_zero, Option.some.injEq] at h1 h2
      subst h1; subst h2
      exact ⟨ky, ht, kV_is rk⟩
    | succ j => exact hk j x kv (by simpa using h1) (by simpa using h2)
theorem call_dictP {X : Cx} (hc : X.calm = true) : CallR X (.type "dict") (rDictP X.K) := by
  intro pins s σ H xs us Q I r h
  obtain ⟨a, ts, rfl, hS, hT, hn, q⟩ := h
  obtain ⟨u, rfl, ru⟩ := vals1 r
  cases ru
  obtain ⟨its, rv, pl, _⟩ := I.list hS
  obtain ⟨ks, rk, hks⟩ := pairs_are I ts hT
  have h1 : ks.length = ts.length := by have := rk.length; simpa using this.symm
  have h2 : its.length = ts.length := by have := rv.length; simpa using this.symm
  have hat : ∀ (i : Nat) (v : Value), its.toArray[i]? = some v → v = .ref ((ts[i]?.map (·.1)).getD 0) := fun i v hv => by
    have hv' : its[i]? = some v := by simpa using hv
    have hi : i < ts.length := by rw [← h2]; exact (List.getElem?_eq_some_iff.mp hv').1
    have := rv.get (i := i) (x := .ref ts[i].1) (by rw [List.getElem?_map, List.getElem?_eq_getElem hi]; rfl)
    obtain ⟨u, hu, ru⟩ := this
    rw [hv'] at hu
    cases hu
    cases ru
    rw [List.getElem?_eq_getElem hi]; rfl
  refine call_dict_list (knd := mixKind X.prog X.w) (ks := ks) (As := fun i => (ts[i]?.map (·.1)).getD 0) (I.ok.hd hc) pl (by rw [List.size_toArray]; omega) (by rw [List.size_toArray, h2]; exact Nat.le_of_lt (small1000 hn)) hat (fun j hj => ?_) fun h' tk hd hk => ?_
  · have hj' : j < ts.length := by rw [List.size_toArray] at hj; omega
    have := hks j ts[j] (ks[j]'(by omega)) (List.getElem?_eq_getElem hj') (List.getElem?_eq_getElem _)
    rw [List.getElem?_eq_getElem hj']
    exact this
  · have lz : (mergeK [] (ts.map (·.2))).length ≤ sizeLine := by
      have := length_mergeK (ts.map (·.2)) []
      rw [List.length_map, List.length_nil] at this
      exact Nat.le_of_lt (small1000 (by omega))
    refine ⟨.ref s.heap.objs.size, _, I.laid (a := s.heap.objs.size) (o := .dK (mergeK [] (ts.map (·.2)))) (t' := tk) hk (Nat.le_refl _) ?_, rfl, q _ (I.hok.fresh (Nat.le_refl _))⟩
    exact dk_new lz (beq_eq_false_iff_ne.mpr fun z => Nat.lt_irrefl _ (z ▸ I.big)) (rk.merge .nil) hd
theorem dictP {X : Cx} (K : PySem.W.Frag) (hc : X.calm = true := by rfl) (h : X.K = K := by rfl) : CallR X (.type "dict") (rDictP K) := by subst h; exact call_dictP hc
/-- in, not in, d[k], d[k] = v, len, of dicts -/
def rInG : R2 := fun y x H Q => ∃ a o, x = .ref a ∧ DGet H a y o ∧ Q (.bl o.isSome) H
def rNotInG : R2 := fun y x H Q => ∃ a o, x = .ref a ∧ DGet H a y o ∧ Q (.bl (!o.isSome)) H
def rIxG : R2 := fun x y H Q => ∃ a v, x = .ref a ∧ DGet H a y (some v) ∧ Q v H
section
variable {X : Cx} {k : Nat}
def rSetG : TSet := fun o i v H Q => ∃ a H', o = .ref a ∧ DPut H a i v H' ∧ Q H'
theorem setG (hr : Room k X.A) : PSet X rSetG := by
  intro pins s σ H o i v ov iv u Q I ro ri rv h
  obtain ⟨a, H', rfl, g, q⟩ := h
  cases ro
  exact d_setItem (hu_of hr) I g ri rv fun s4 I4 => ⟨H', I4, q⟩
theorem subTail_of {prog : Program} {w : World} {A : Around} {E : Value → Shared → Prop} {s : Shared} {value slice : Expr} {o i : Value} {T id : String} {Q : Value → Shared → Prop} (hT : s.TypeIs o T)
    (hl : typeLookup (.type T) "__getitem__" = pure (some (.builtin id))) (hs : subscripted slice false o i = operate [o, i] (getItem o i)) (h : wpAny (model prog w) A (getItem o i) Q E s) :
    wpAny (model prog w) A (subscriptTail value slice o i) Q E s := by
  unfold subscriptTail
  refine wpAny_bind ?_
  rw [getitemInPython_of_ne hT.not_modules]
  refine wpAny_bind (wpAny_specialOf hT hl ?_)
  have fin : wpAny (model prog w) A (subscripted slice false o i) (fun r s₃ => wpAny (model prog w) A (letTemporaryGo value o r >>= fun _ => pure r) Q E s₃) E s := by
    rw [hs]
    exact wpAny_operating (wpAny_mono h (fun r s₃ h₃ => wpAny_bind (wpAny_letTemporaryGo (wpAny_pure h₃))) fun _ _ x => x)
  first
    | exact wpAny_pure (wpAny_bind fin)
    | exact wpAny_bind (wpAny_pure (wpAny_bind fin))
    | exact wpAny_bind fin
theorem ixG (hr : Room k X.A) : IxR X rIxG := by
  intro value slice pins s σ H x y v u Q I rx ry h hs
  obtain ⟨a, z, rfl, g, q⟩ := h
  cases rx
  exact subTail_of (dict_typeIs I g) PySem.F.slot_dict_getitem.lookup hs (d_getItem (hu_of hr) I g ry fun w' s' I' rw' => ⟨z, H, I', rw', q⟩)
/-- likened with an empty dict -/
def rEqE (neg : Bool) : R2 := fun x y H Q => ∃ a b kvs, x = .ref a ∧ y = .ref b ∧ H a = some (.dK kvs) ∧ H b = some (.dK []) ∧ Q (.bl (if neg then !kvs.isEmpty else kvs.isEmpty)) H
theorem lenG : CallR X (.builtin "len") (fun xs H Q => ∃ a kvs, xs = [V.ref a] ∧ H a = some (.dK kvs) ∧ Q (.int kvs.length) H) := call_lenD
end
end L2

set_option Elab.async false
set_option linter.all false
set_option maxRecDepth 100000
/-! MY LAYER, 41: data of any form, each part of it tracked; walks in one word -/
namespace L2
open PySem PySem.Spec PyProof.Rows
mutual
inductive DH (H : Hp) : V → PyData → Prop where
  | non : DH H .non .none
  | bl (b : Bool) : DH H (.bl b) (.bool b)
  | int (i : Int) : DH H (.int i) (.int i)
  | str (s : Str) : DH H (.str s) (.str s)
  | lst {a : Addr} {xs : List V} {ds : List PyData} : H a = some (.lst xs) → DHs H xs ds → DH H (.ref a) (.list ds)
  | tup {a : Addr} {xs : List V} {ds : List PyData} : H a = some (.tup xs) → DHs H xs ds → DH H (.ref a) (.tuple ds)
inductive DHs (H : Hp) : List V → List PyData → Prop where
  | nil : DHs H [] []
  | cons {x : V} {d : PyData} {xs : List V} {ds : List PyData} : DH H x d → DHs H xs ds → DHs H (x :: xs) (d :: ds)
end
mutual
theorem DH.mono {H H' : Hp} (s : Same H H') : ∀ {x : V} {d : PyData}, DH H x d → DH H' x d
  | _, _, .non => .non
  | _, _, .bl b => .bl b
  | _, _, .int i => .int i
  | _, _, .str z => .str z
  | _, _, .lst h hs => .lst (s _ _ h) (DHs.mono s hs)
  | _, _, .tup h hs => .tup (s _ _ h) (DHs.mono s hs)
theorem DHs.mono {H H' : Hp} (s : Same H H') : ∀ {xs : List V} {ds : List PyData}, DHs H xs ds → DHs H' xs ds
  | _, _, .nil => .nil
  | _, _, .cons h hs => .cons (DH.mono s h) (DHs.mono s hs)
end
mutual
theorem DH.dv {K : PySem.W.Frag} {H : Hp} : ∀ {x : V} {d : PyData}, DH H x d → DV K H x d
  | _, _, .non => .non
  | _, _, .bl b => .bl b
  | _, _, .int i => .int i
  | _, _, .str z => .str z
  | _, _, .lst h hs => .lst (SqL.of h) (DHs.dv hs)
  | _, _, .tup h hs => .tup (SqT.of h) (DHs.dv hs)
theorem DHs.dv {K : PySem.W.Frag} {H : Hp} : ∀ {xs : List V} {ds : List PyData}, DHs H xs ds → DVs K H xs ds
  | _, _, .nil => .nil
  | _, _, .cons h hs => .cons (DH.dv h) (DHs.dv hs)
end
/-- the name of a datum's type -/
def tyD : PyData → String
  | .none => "NoneType"
  | .bool _ => "bool"
  | .int _ => "int"
  | .str _ => "str"
  | .tuple _ => "tuple"
  | _ => "list"
def isIntD : PyData → Bool
  | .int _ => true
  | _ => false
def isBoolD : PyData → Bool
  | .bool _ => true
  | _ => false
def isLstD : PyData → Bool
  | .list _ => true
  | _ => false
def isTupD : PyData → Bool
  | .tuple _ => true
  | _ => false
def isStrD : PyData → Bool
  | .str _ => true
  | _ => false
section
open PySem.W
end
/-! ### walks of comprehensions and dict comprehensions -/
/-! ### lists without repeats, lists of ints -/
/-! ### dicts by lists of keys that don't repeat -/
theorem mergeK_nd : ∀ (more acc : List (Key × V)), ((acc ++ more).map (·.1)).Nodup → mergeK acc more = acc ++ more
  | [], acc, _ => by show acc = _; rw [List.append_nil]
  | x :: r, acc, h => by
    have hx : valV acc x.1 = none := by
      cases hv : valV acc x.1 with
      | none => rfl
      | some v =>
        have := valV_in hv
        rw [List.map_append, List.map_cons] at h
        have := (List.nodup_append.mp h).2.2 x.1 this x.1 (by simp)
        exact absurd rfl this
    show mergeK (putK acc x.1 x.2) r = _
    rw [putK_new _ hx, mergeK_nd r (acc ++ [x]) (by rw [List.append_assoc]; exact h), List.append_assoc]; rfl
theorem valV_mem {kvs : List (Key × V)} {k : Key} {v : V} (h : valV kvs k = some v) : (k, v) ∈ kvs := by
  unfold valV at h
  obtain ⟨p, hp, rfl⟩ := Option.map_eq_some_iff.mp h
  have h1 := List.find?_some hp
  have h2 := List.mem_of_find?_eq_some hp
  have : p.1 = k := by simpa using h1
  rw [← this]; exact h2
theorem valV_of_mem {kvs : List (Key × V)} (hn : (kvs.map (·.1)).Nodup) {k : Key} {v : V} (h : (k, v) ∈ kvs) : valV kvs k = some v := by
  induction kvs with
  | nil => cases h
  | cons p r ih =>
    obtain ⟨n1, n2⟩ := List.nodup_cons.mp (by simpa using hn : (p.1 :: r.map (·.1)).Nodup)
    rcases List.mem_cons.mp h with rfl | h
    · exact valV_pos rfl
    · rw [valV_neg fun e => n1 (e ▸ List.mem_map_of_mem (f := (·.1)) h)]
      exact ih n2 h
/-! ### x[:n] of texts -/
end L2

set_option Elab.async false
set_option linter.all false
set_option maxRecDepth 100000
/-! MY LAYER, 42: `a or b` of any values, `not` of any value, tests of any value -/
namespace L2
open PySem PySem.Spec PyProof.Rows
def tOrK (K : PySem.W.Frag) (ta tb : TE) : TE := fun σ H Q => ta σ H fun x H1 => ∃ k, TruV K x H1 k ∧ if k = true then Q x H1 else tb σ H1 Q
end L2

set_option Elab.async false
set_option linter.all false
set_option maxRecDepth 100000
/-! MY LAYER, 43: comprehensions and walks over a dict's keys, values, pairs, while it stands frozen -/
namespace L2
open PySem PySem.Spec PyProof.Rows
theorem DGet.fz {H : Hp} {a : Addr} {o : Obj} {kvs : List (Key × V)} {k : Key} {r : Option V} (e : H a = some (.frz o (.dK kvs))) (h : valV kvs k = r) : DGet H a (kV k) r := .inl ⟨kvs, k, .inr ⟨o, e⟩, rfl, h.symm⟩
theorem comp_kF {d : Addr} {o : Obj} {kvs : List (Key × V)} {k : Nat} {D : Addr} {σ : L2.St} {H1 : Hp} {g : TG} {tc : TT} {te : TE} {Q : VK} (Pv : Nat → List V → L2.St → Hp → Prop) (h0 : Pv 0 [] (σ ++ List.replicate k none) (upd H1 D (.lst [])))
    (hl : ∀ i ys σ H, Pv i ys σ H → H d = some (.frz o (.dK kvs)))
    (hs : ∀ i k x ys σ H, kvs[i]? = some (k, x) → Pv i ys σ H → g (kV k) σ H fun σ4 H4 => tc σ4 H4 fun b H5 => if b = true then te σ4 H5 fun y H6 => H6 D = some (.lst ys) ∧ ys.length < sizeLine ∧ Pv (i + 1) (ys ++ [y]) σ4 (upd H6 D (.lst (ys ++ [y]))) else Pv (i + 1) ys σ4 H5)
    (hd : ∀ ys σ H, Pv kvs.length ys σ H → Q (.ref D) H) : CompGo (Itk d o kvs) D k σ H1 g tc te Q := by
  refine ⟨fun i m ys σ H => m = kvs.length - i ∧ i ≤ kvs.length ∧ Pv i ys σ H, ⟨kvs.length, by simp, Nat.zero_le _, h0⟩, ?_⟩
  rintro i m ys σ H ⟨rfl, hi, p⟩
  have q1 := hl i ys σ H p
  by_cases hlt : i < kvs.length
  · refine .inr ⟨⟨q1, hlt⟩, Pv (i + 1), fun ys' σ' H' p' => ⟨kvs.length - (i + 1), by omega, rfl, hlt, p'⟩, fun x H' y => ?_⟩
    obtain ⟨rfl, k', x', e, rfl⟩ := y
    exact hs i k' x' ys σ _ e p
  · have e : i = kvs.length := by omega
    exact .inl ⟨⟨q1, by omega⟩, hd ys σ H (e ▸ p)⟩
end L2

set_option Elab.async false
set_option linter.all false
set_option maxRecDepth 100000
/-! MY LAYER, 44: a heap without one address: what stands apart from it -/
namespace L2
open PySem PySem.Spec PyProof.Rows
def off (p : Addr) (H : Hp) : Hp := fun b => if b = p then none else H b
end L2

set_option Elab.async false
set_option linter.all false
set_option maxRecDepth 100000
/-! MY LAYER, 45: d.pop(k), d.update(list of pairs) -/
namespace L2
open PySem PySem.Spec PyProof.Rows
section
variable {prog : Program} {w : World} {A : Around} {R : Result → Shared → Prop} {I : Addr} {fp wr : List Addr} {G : Array GenState → Array GenState → Prop} {n : Nat} {P : Nat → Value → Prop} {St : Nat → Shared → Prop} {K : Type} [DecidableEq K] {knd : KeyKind prog w K}
theorem codeAny_update_loop (W : WalksS prog w A.in1 I fp wr G n P St) (D : Addr) (k0 : List (K × Value)) (hDf : D ∉ fp) (ks : List (K × Value)) (hn : ks.length = n) (As : Nat → Addr) (hAs : ∀ j, j < n → As j ≠ D ∧ As j ∉ wr)
    (hval : ∀ i v, P i v → v = .ref (As i)) (hsz : k0.length + n ≤ sizeLine) :
    ∀ (k i : Nat) (z : Int) (s : Shared), n - i = k → i ≤ n → St i s → s.heap.DictOf knd D (merged k0 (ks.take i)) →
      (∀ j (hj : j < n), ∃ ky, IsTup s.heap (As j) #[ky, (ks[j]'(hn ▸ hj)).2] ∧ knd.is (ks[j]'(hn ▸ hj)).1 ky = true) →
      (∀ s', Moved (D :: wr) G s s' → s'.heap.DictOf knd D (merged k0 ks) → R (.ok (.ret .none)) s') →
      codeAny (model prog w) A (.builtin "dict.update.loop" ⟨[.ref D, .ref I, rawInt z, .none], []⟩) R s := by
  have hDw : D ∉ wr := fun h => hDf (W.sub _ h)
  have hsub : ∀ b ∈ wr, b ∈ D :: wr := fun b hb => List.mem_cons_of_mem _ hb
  intro k
  induction k with
  | zero =>
    intro i z s hk hi hst hS hT hR
    have hin : i = n := by omega
    subst hin
    refine codeAny_builtin entry_dict_update_loop ?_
    rw [Around.under_plainId plain_dict_update_loop _]
    show wpAny _ A.in1 (pyNext (.ref I) >>= _) _ _ s
    refine wpAny_bind (W.done s _ _ hst fun s' hm => ?_)
    show wpAny _ A.in1 (Builtin.Dict.addKeywords D [] >>= fun _ => ret Value.none) _ _ s'
    refine wpAny_bind (wpAny_pure (wpAny_pure (hR s' (hm.mono hsub) ?_)))
    rw [List.take_of_length_le (by omega)] at hS
    obtain ⟨o, es, ep, ho, rest⟩ := hS
    exact ⟨o, es, ep, hm.heap D _ hDw ho, rest⟩
  | succ k ih =>
    intro i z s hk hi hst hS hT hR
    have hlt : i < n := by omega
    refine codeAny_builtin entry_dict_update_loop ?_
    rw [Around.under_plainId plain_dict_update_loop _]
    show wpAny _ A.in1 (pyNext (.ref I) >>= _) _ _ s
    refine wpAny_bind (W.item i s _ _ hlt hst fun v s' hP hst' hm => ?_)
    have ev := hval i v hP
    subst ev
    obtain ⟨ky, ht, hky⟩ := hT i hlt
    have ht' : IsTup s'.heap (As i) #[ky, (ks[i]'(hn ▸ hlt)).2] := by
      obtain ⟨o, ho, r⟩ := ht
      exact ⟨o, hm.heap _ _ (hAs i hlt).2 ho, r⟩
    have hS' : s'.heap.DictOf knd D (merged k0 (ks.take i)) := by
      obtain ⟨o, es, ep, ho, rest⟩ := hS
      exact ⟨o, es, ep, hm.heap D _ hDw ho, rest⟩
    show wpAny _ A.in1 (holding [Value.ref (As i)] _ >>= _) _ _ s'
    refine wpAny_bind (wpAny_holding ?_)
    obtain ⟨ot, hot, hct, nt, hdt⟩ := id ht'
    refine wpAny_bind ?_
    have hpair : wpAny (model prog w) A.in1 (Builtin.Dict.pairItems (Value.ref (As i))) (fun p s2 => p = [ky, (ks[i]'(hn ▸ hlt)).2] ∧ s2 = s') (fun e s' => False) s' := by
      unfold Builtin.Dict.pairItems
      refine wpAny_bind (wpAny_typeOf (T := "tuple") ⟨ot, hot, hct⟩ ?_)
      rw [if_pos (by decide)]
      exact wpAny_bind (wpAny_seqItems hot hdt (wpAny_pure ⟨rfl, rfl⟩))
    refine wpAny_tryCatch (wpAny_mono hpair (fun p s2 h2 => ?_) fun _ _ z => z.elim)
    obtain ⟨rfl, rfl⟩ := h2
    have hle : (merged k0 (ks.take i)).length ≤ sizeLine := by
      have h1 := merged_len (ks.take i) k0
      rw [List.length_take] at h1
      omega
    refine wpAny_holding (wpAny_dictSet_pairs hky hS' (fun h' hd' hs => ?_) hle)
    have hd2 : h'.DictOf knd D (merged k0 (ks.take (i + 1))) := by
      rw [merged_take_succ k0 ks i _ (List.getElem?_eq_getElem (hn ▸ hlt))]
      exact hd'
    refine wpAny_pure ⟨plainId_quiet plain_dict_update_loop _, ih (i + 1) (z + 1) _ (by omega) hlt (W.frame _ s2 _ _ hst' (Nat.le_succ _) fun b hb o e => ?_) hd2 (fun j hj => ?_) fun s'' hm'' hS'' => ?_⟩
    · rw [hs.2 b (fun h : b = D => hDf (by rw [← h]; exact hb))]; exact e
    · obtain ⟨kj, ⟨o, ho, r⟩, hkj⟩ := hT j hj
      refine ⟨kj, ⟨o, ?_, r⟩, hkj⟩
      have hnd := (hAs j hj).1
      show h'.get? (As j) = some o
      rw [hs.2 _ hnd]
      exact hm.heap _ _ (hAs j hj).2 ho
    · refine hR s'' (Moved.trans W.gtrans ((hm.mono hsub).then_heap (Nat.le_succ _) fun b o hb e => ?_) hm'') hS''
      rw [hs.2 b (fun h : b = D => hb (by rw [h]; exact List.mem_cons_self))]; exact e
theorem meets_update_list (D l : Addr) {k0 : List (K × Value)} {items : Array Value} {ks : List (K × Value)} {As : Nat → Addr} (hn : ks.length = items.size) (hsz : k0.length + items.size ≤ sizeLine)
    (hval : ∀ (i : Nat) (v : Value), items[i]? = some v → v = .ref (As i)) (hAD : ∀ j, j < items.size → As j ≠ D) (hDl : D ≠ l) :
    MeetsIn prog w (Builtin.«dict.update» ⟨[.ref D, .ref l], []⟩) (fun A R s => A.handled = none ∧ s.heap.DictOf knd D k0 ∧ PlainL s.heap l items ∧ (∀ j (hj : j < items.size), ∃ ky, IsTup s.heap (As j) #[ky, (ks[j]'(hn ▸ hj)).2] ∧ knd.is (ks[j]'(hn ▸ hj)).1 ky = true) ∧
      ∀ h' tk, h'.DictOf knd D (merged k0 ks) → (∀ b o, b ≠ D → s.heap.get? b = some o → h'.get? b = some o) → R (.ok (.ret .none)) { s with heap := h', toks := tk }) := by
  intro A R s ⟨hh, hD, hl, ht, h⟩
  obtain ⟨ol, nl, hol, hcl, hdl, hdat⟩ := hl
  unfold Builtin.«dict.update»
  refine wpAny_bind ?_
  unfold Builtin.Dict.selfAndRest
  refine wpAny_bind (wpAny_notOrdered_dict hD.typeIs ?_)
  show wpAny _ _ (pure (D, [Value.ref l])) _ _ s
  refine wpAny_pure ?_
  show wpAny _ _ (Builtin.Dict.updateFrom "dict.update" D (.ref l) [] .none) _ _ s
  unfold Builtin.Dict.updateFrom
  refine wpAny_bind (wpAny_typeOf (T := "list") ⟨ol, hol, hcl⟩ ?_)
  rw [if_pos (by decide)]
  refine wpAny_bind (getAttr?_keys_list hol hcl hdat hdl (by simp [hh]) fun h1 tk e hx => ?_)
  rw [if_pos (by decide)]
  have kp : ∀ b o, s.heap.get? b = some o → h1.get? b = some o := fun b o z => hx.keeps b o z
  have hl1 : h1.IsList l items := ⟨ol, kp _ _ hol, hcl, nl, hdat⟩
  refine wpAny_bind (wpAny_rule (wpAny_bind (wpAny_pyIter_list hl1 ?_)))
  have hDD : D < h1.objs.size := by
    obtain ⟨o, es, ep, ho, _⟩ := id hD
    exact Heap.lt_size (kp _ _ ho)
  have hll : l < h1.objs.size := Heap.lt_size (kp _ _ hol)
  have hneI : l ≠ h1.objs.size := Nat.ne_of_lt hll
  have hDf : D ∉ [h1.objs.size, l] := by
    simp only [List.mem_cons, List.not_mem_nil, or_false, not_or]
    exact ⟨Nat.ne_of_lt hDD, hDl⟩
  refine wpAny_pure ⟨plainId_quiet plain_dict_update_loop _, ?_⟩
  have hh3 : A.in1.handled = none := by simp [hh]
  have k2 : ∀ b o, s.heap.get? b = some o → (h1.push { cls := .type "list_iterator", data := .fields #[.ref l, .int 0 0] }).get? b = some o := fun b o z => Heap.get?_push_of_some _ (kp b o z)
  refine codeAny_update_loop (A := A) (knd := knd) ((Walks.list hh3 _ l hneI items).toS) D k0 hDf ks hn As (fun j hj => ?_) hval hsz (items.size - 0) 0 0 _ (by omega) (Nat.zero_le _)
    ⟨⟨_, Heap.get?_push_size _ rfl, rfl, rfl⟩, (hl1.push _)⟩ ?hS0 (fun j hj => ?_) ?hR
  · obtain ⟨ky, ⟨o, ho, _⟩, _⟩ := ht j hj
    have := Heap.lt_size (kp _ _ ho)
    refine ⟨hAD j hj, ?_⟩
    simp only [List.mem_cons, List.not_mem_nil, or_false]
    exact Nat.ne_of_lt this
  case hS0 =>
    obtain ⟨o, es, ep, ho, r⟩ := hD
    exact ⟨o, es, ep, Heap.get?_push_of_some _ (kp _ _ ho), r⟩
  · obtain ⟨ky, ⟨o, ho, r⟩, hk⟩ := ht j hj
    exact ⟨ky, ⟨o, k2 _ _ ho, r⟩, hk⟩
  case hR =>
    intro s' hm hS'
    obtain ⟨h', g', d', tk', os'⟩ := s'
    have eg : g' = s.gens := hm.gens
    have ed : d' = s.drawn := hm.drawn
    have eo : os' = s.os := hm.os
    subst eg; subst ed; subst eo
    refine h h' tk' hS' fun b o hb e => ?_
    have hb' := Heap.lt_size (kp _ _ e)
    exact hm.heap b o (by simp only [List.mem_cons, List.not_mem_nil, or_false, not_or]; exact ⟨hb, Nat.ne_of_lt hb'⟩) (k2 b o e)
end
theorem slot_dict_update' : Slot "dict" "update" "dict.update" := PySem.F.slot_dict_update
/-- d.pop(k), there -/
def rDPop : V → List V → Hp → VK → Prop := fun x vs H Q => ∃ a kvs k v, x = .ref a ∧ vs = [kV k] ∧ H a = some (.dK kvs) ∧ valV kvs k = some v ∧ Q v (upd H a (.dK (dropK kvs k)))
theorem mt_dpop {X : Cx} : MtM X "dict.pop" rDPop := by
  intro pins s σ H x vs v us Q I rx rv h
  obtain ⟨a, kvs, k, y, rfl, rfl, hH, hv, q⟩ := h
  cases rx
  obtain ⟨u, rfl, ru⟩ := rv.one
  exact d_pop I hH ru hv (.inl rfl) fun w' s' I' r' => ⟨y, _, I', r', q⟩
/-- d.update(list of pairs) -/
def rDUpd (K : PySem.W.Frag) : V → List V → Hp → VK → Prop := fun x vs H Q => ∃ (D a : Addr) (kvs : List (Key × V)) (ts : List (Addr × Key × V)), x = .ref D ∧ vs = [.ref a] ∧ H D = some (.dK kvs) ∧ H a = some (.lst (ts.map fun t => V.ref t.1)) ∧ (∀ t ∈ ts, H t.1 = some (.tup [kV t.2.1, t.2.2])) ∧ ts.length ≤ 1000 ∧ kvs.length ≤ 100000 ∧
  Q .non (upd H D (.dK (mergeK kvs (ts.map (·.2)))))
theorem mt_dupd {X : Cx} (hc : X.calm = true) : MtM X "dict.update" (rDUpd X.K) := by
  intro pins s σ H x vs v us Q I rx rv h
  obtain ⟨D, a, kvs, ts, rfl, rfl, hD, hS, hT, hn, hk0, q⟩ := h
  cases rx
  obtain ⟨u, rfl, ru⟩ := rv.one
  cases ru
  have hDa : D ≠ a := fun z => by rw [z, hS] at hD; cases hD
  obtain ⟨its, rv, pl, _⟩ := I.list (SqL.of (K := X.K) hS)
  obtain ⟨ks, rk, hks⟩ := pairs_are I ts hT
  obtain ⟨z, hsm, k0, rel, dd⟩ := dk_of I.hok hD
  have h1 : ks.length = ts.length := by have := rk.length; simpa using this.symm
  have h2 : its.length = ts.length := by have := rv.length; simpa using this.symm
  have h3 : k0.length = kvs.length := rel.length.symm
  have hat : ∀ (i : Nat) (v : Value), its.toArray[i]? = some v → v = .ref ((ts[i]?.map (·.1)).getD 0) := fun i v hv => by
    have hv' : its[i]? = some v := by simpa using hv
    have hi : i < ts.length := by rw [← h2]; exact (List.getElem?_eq_some_iff.mp hv').1
    have := rv.get (i := i) (x := .ref ts[i].1) (by rw [List.getElem?_map, List.getElem?_eq_getElem hi]; rfl)
    obtain ⟨u, hu, ru⟩ := this
    rw [hv'] at hu
    cases hu
    cases ru
    rw [List.getElem?_eq_getElem hi]; rfl
  refine call_meetsIn slot_dict_update' dd.typeIs PySem.F.entry_dict_update (PySem.F.args_dict_update_2 _ _) (meets_update_list (knd := mixKind X.prog X.w) D a (k0 := k0) (items := its.toArray) (ks := ks) (As := fun i => (ts[i]?.map (·.1)).getD 0) (by rw [List.size_toArray]; omega) ?_ hat (fun j hj => ?_) hDa) ⟨I.ok.hd hc, dd, pl, fun j hj => ?_, fun h' tk hd hk => ?_⟩
  · rw [List.size_toArray]; exact Nat.le_trans (by omega) (show 101000 ≤ sizeLine by decide)
  · have hj' : j < ts.length := by rw [List.size_toArray] at hj; omega
    rw [List.getElem?_eq_getElem hj']
    intro z
    have := hT ts[j] (List.getElem_mem hj')
    rw [show ts[j].1 = D from z, hD] at this
    cases this
  · have hj' : j < ts.length := by rw [List.size_toArray] at hj; omega
    have := hks j ts[j] (ks[j]'(by omega)) (List.getElem?_eq_getElem hj') (List.getElem?_eq_getElem _)
    rw [List.getElem?_eq_getElem hj']
    exact this
  · have lz : (mergeK kvs (ts.map (·.2))).length ≤ sizeLine := by
      have := length_mergeK (ts.map (·.2)) kvs
      rw [List.length_map] at this
      exact Nat.le_trans (by omega) (show 101000 ≤ sizeLine by decide)
    have he : ∃ q, h'.get? D = some q := let ⟨q, _, _, hq, _⟩ := hd; ⟨q, hq⟩
    exact ⟨.non, _, I.write (x := D) (e := D) (t' := tk) (by rw [hD]; exact True.intro) (.inl rfl) hk he (dk_new lz hsm (rk.merge rel) hd), rfl, q⟩
theorem dUpdQ {X : Cx} (K : PySem.W.Frag) (hc : X.calm = true := by rfl) (h : X.K = K := by rfl) : MtM X "dict.update" (rDUpd K) := by subst h; exact mt_dupd hc
theorem call_anyB {X : Cx} (hc : X.calm = true) : CallR X (.builtin "any") (fun xs H Q => ∃ (p : Addr) (bs : List Bool), xs = [.ref p] ∧ SqL X.K H p (bs.map V.bl) ∧ Q (.bl (bs.any id)) H) := by
  intro pins s σ H xs us Q I r h
  obtain ⟨p, bs, rfl, hq, q⟩ := h
  obtain ⟨u, rfl, rx⟩ := vals1 r
  cases rx
  obtain ⟨its, rv, pl, hz⟩ := I.list hq
  have hl := pl.isList
  have hlt : p < s.heap.objs.size := by obtain ⟨_, e, _⟩ := hl; exact Heap.lt_size e
  refine call_any_walk (wpAny_pyIter_list hl ?_)
  refine ⟨s.heap.objs.size, [s.heap.objs.size, p], [s.heap.objs.size], its.toArray.size, _, _, fun i => (bs[i]?).getD true, rfl, Walks.list (A := X.A.in1) (I.ok.hd hc) _ p (Nat.ne_of_lt hlt) its.toArray,
    ⟨⟨_, Heap.get?_push_size _ rfl, rfl, rfl⟩, hl.push _⟩, fun i v s' Q' E' hP hQ => ?_, fun h' tk hk => ?_⟩
  · have hP' : its[i]? = some v := by simpa using hP
    have hi : i < its.length := (List.getElem?_eq_some_iff.mp hP').1
    have hlen := rv.length
    have hb : (bs.map V.bl)[i]? = some (V.bl (bs[i]'(by rw [List.length_map] at hlen; omega))) := by
      rw [List.getElem?_map, List.getElem?_eq_getElem (by rw [List.length_map] at hlen; omega)]; rfl
    obtain ⟨u', hu', ru'⟩ := rv.get hb
    rw [hP'] at hu'; cases hu'
    obtain rfl : v = Value.bool _ := ru'
    have hQ2 : Q' ((bs[i]?).getD true) s' := hQ
    rw [List.getElem?_eq_getElem (by rw [List.length_map] at hlen; omega)] at hQ2
    exact wpAny_truthy_bool hQ2
  · have e : ((List.range its.toArray.size).any fun i => (bs[i]?).getD true) = bs.any id := by
      have hlen := rv.length
      rw [List.length_map] at hlen
      rw [List.size_toArray, ← hlen, Bool.eq_iff_iff, List.any_eq_true, List.any_eq_true]
      constructor
      · rintro ⟨i, hi, z⟩
        have hi' := List.mem_range.mp hi
        rw [List.getElem?_eq_getElem hi'] at z
        exact ⟨_, List.getElem_mem hi', z⟩
      · rintro ⟨b, hb, z⟩
        obtain ⟨i, hi, rfl⟩ := List.mem_iff_getElem.mp hb
        refine ⟨i, List.mem_range.mpr hi, ?_⟩
        rw [List.getElem?_eq_getElem hi]
        exact z
    refine ⟨.bl (bs.any id), H, I.kept fun b ob e' => hk b ob (fun hm => ?_) (Heap.get?_push_of_some _ e'), by rw [e]; rfl, q⟩
    rw [List.mem_singleton.mp hm] at e'
    exact Nat.lt_irrefl _ (Heap.lt_size e')
theorem anyQ {X : Cx} (K : PySem.W.Frag) (hc : X.calm = true := by rfl) (h : X.K = K := by rfl) : CallR X (.builtin "any") (fun xs H Q => ∃ (p : Addr) (bs : List Bool), xs = [.ref p] ∧ SqL K H p (bs.map V.bl) ∧ Q (.bl (bs.any id)) H) := by subst h; exact call_anyB hc
end L2

set_option Elab.async false
set_option linter.all false
set_option maxRecDepth 100000
set_option maxHeartbeats 1000000

namespace My
open PySem L2 PyProof.Rows
def hdS : List Stmt → Stmt
  | a :: _ => a
  | [] => .Pass ⟨0, 0, 0, 0⟩
abbrev body0 : List Stmt := PySem.Challenge.pw_mergetree_k67_whole_runs_walked.main.body
abbrev st_is_number : Stmt := hdS (List.tail body0)
abbrev st_alike : Stmt := hdS (List.tail (List.tail (List.tail body0)))
abbrev st_liken : Stmt := hdS (List.tail (List.tail (List.tail (List.tail body0))))
abbrev st_alike_from : Stmt := hdS (List.tail (List.tail (List.tail (List.tail (List.tail body0)))))
abbrev st_order_at : Stmt := hdS (List.tail (List.tail (List.tail (List.tail (List.tail (List.tail body0))))))
abbrev st_runs_of : Stmt := hdS (List.tail (List.tail (List.tail (List.tail (List.tail (List.tail (List.tail (List.tail body0))))))))
abbrev st_run_behind : Stmt := hdS (List.tail (List.tail (List.tail (List.tail (List.tail (List.tail (List.tail (List.tail (List.tail body0)))))))))
abbrev st_is_run : Stmt := hdS (List.tail (List.tail (List.tail (List.tail (List.tail (List.tail (List.tail (List.tail (List.tail (List.tail body0))))))))))
abbrev st_l_mix : Stmt := hdS (List.tail (List.tail (List.tail (List.tail (List.tail (List.tail (List.tail (List.tail (List.tail (List.tail (List.tail (List.tail body0))))))))))))
abbrev st_l_left : Stmt := hdS (List.tail (List.tail (List.tail (List.tail (List.tail (List.tail (List.tail (List.tail (List.tail (List.tail (List.tail (List.tail (List.tail body0)))))))))))))
abbrev st_l_pick : Stmt := hdS (List.tail (List.tail (List.tail (List.tail (List.tail (List.tail (List.tail (List.tail (List.tail (List.tail (List.tail (List.tail (List.tail (List.tail body0))))))))))))))
abbrev st_l_stems : Stmt := hdS (List.tail (List.tail (List.tail (List.tail (List.tail (List.tail (List.tail (List.tail (List.tail (List.tail (List.tail (List.tail (List.tail (List.tail (List.tail body0)))))))))))))))
abbrev st_l_key : Stmt := hdS (List.tail (List.tail (List.tail (List.tail (List.tail (List.tail (List.tail (List.tail (List.tail (List.tail (List.tail (List.tail (List.tail (List.tail (List.tail (List.tail body0))))))))))))))))
abbrev st_l_things : Stmt := hdS (List.tail (List.tail (List.tail (List.tail (List.tail (List.tail (List.tail (List.tail (List.tail (List.tail (List.tail (List.tail (List.tail (List.tail (List.tail (List.tail (List.tail body0)))))))))))))))))
abbrev st_l_room : Stmt := hdS (List.tail (List.tail (List.tail (List.tail (List.tail (List.tail (List.tail (List.tail (List.tail (List.tail (List.tail (List.tail (List.tail (List.tail (List.tail (List.tail (List.tail (List.tail body0))))))))))))))))))
abbrev st_l_walked : Stmt := hdS (List.tail (List.tail (List.tail (List.tail (List.tail (List.tail (List.tail (List.tail (List.tail (List.tail (List.tail (List.tail (List.tail (List.tail (List.tail (List.tail (List.tail (List.tail (List.tail body0)))))))))))))))))))
abbrev st_l_like_ones_right : Stmt := hdS (List.tail (List.tail (List.tail (List.tail (List.tail (List.tail (List.tail (List.tail (List.tail (List.tail (List.tail (List.tail (List.tail (List.tail (List.tail (List.tail (List.tail (List.tail (List.tail (List.tail body0))))))))))))))))))))
abbrev st_law : Stmt := hdS (List.tail (List.tail (List.tail (List.tail (List.tail (List.tail (List.tail (List.tail (List.tail (List.tail (List.tail (List.tail (List.tail (List.tail (List.tail (List.tail (List.tail (List.tail (List.tail (List.tail (List.tail body0)))))))))))))))))))))
theorem sc_l_mix : FnScope ["_law_cell", "_law_k", "_law_m"] ["_law_cell", "_law_k"] (defScope st_l_mix) := ⟨rfl, rfl, rfl, by decide +kernel, rfl, by decide +kernel, by decide +kernel⟩
theorem sc_l_left : FnScope ["_law_script", "_law_k", "_law_cell"] ["_law_script", "_law_k"] (defScope st_l_left) := ⟨rfl, rfl, rfl, by decide +kernel, rfl, by decide +kernel, by decide +kernel⟩
theorem sc_l_pick : FnScope ["_law_left_here", "_law_many", "_law_digit"] ["_law_left_here", "_law_many"] (defScope st_l_pick) := ⟨rfl, rfl, rfl, by decide +kernel, rfl, by decide +kernel, by decide +kernel⟩
theorem sc_l_stems : FnScope ["_law_left_here", "_law_some"] ["_law_left_here"] (defScope st_l_stems) := ⟨rfl, rfl, rfl, by decide +kernel, rfl, by decide +kernel, by decide +kernel⟩
theorem sc_l_key : FnScope ["_law_left_here", "_law_stems_here", "_law_tail"] ["_law_left_here", "_law_stems_here"] (defScope st_l_key) := ⟨rfl, rfl, rfl, by decide +kernel, rfl, by decide +kernel, by decide +kernel⟩
theorem sc_alike_from : FnScope ["one", "other", "far", "at"] ["one", "other", "far"] (defScope st_alike_from) := ⟨rfl, rfl, rfl, by decide +kernel, rfl, by decide +kernel, by decide +kernel⟩
theorem sc_alike : FnScope ["one", "other"] ["one", "other"] (defScope st_alike) := ⟨rfl, rfl, rfl, by decide +kernel, rfl, by decide +kernel, by decide +kernel⟩
theorem sc_order_at : FnScope ["one", "other", "at"] ["one", "other", "at"] (defScope st_order_at) := ⟨rfl, rfl, rfl, by decide +kernel, rfl, by decide +kernel, by decide +kernel⟩
theorem sc_liken : FnScope ["one", "other"] ["one", "other"] (defScope st_liken) := ⟨rfl, rfl, rfl, by decide +kernel, rfl, by decide +kernel, by decide +kernel⟩
theorem sc_l_things : FnScope ["_law_left_here", "_law_stems_here", "_law_many", "_law_found", "_law_k", "_law_key_here", "_law_way", "_law_cut"] ["_law_left_here"] (defScope st_l_things) := ⟨rfl, rfl, rfl, by decide +kernel, rfl, by decide +kernel, by decide +kernel⟩
theorem sc_is_number : FnScope ["thing"] ["thing"] (defScope st_is_number) := ⟨rfl, rfl, rfl, by decide +kernel, rfl, by decide +kernel, by decide +kernel⟩
theorem sc_l_room : FnScope ["_law_left_here"] ["_law_left_here"] (defScope st_l_room) := ⟨rfl, rfl, rfl, by decide +kernel, rfl, by decide +kernel, by decide +kernel⟩
theorem sc_run_behind : FnScope ["run", "key", "comer"] ["run", "key", "comer"] (defScope st_run_behind) := ⟨rfl, rfl, rfl, by decide +kernel, rfl, by decide +kernel, by decide +kernel⟩
theorem sc_runs_of : FnScope ["things", "room", "inside", "next_in", "runs", "goer", "run", "key", "number"] ["things", "room"] (defScope st_runs_of) := ⟨rfl, rfl, rfl, by decide +kernel, rfl, by decide +kernel, by decide +kernel⟩
theorem sc_is_run : FnScope ["things", "thing", "number", "place"] ["things", "thing"] (defScope st_is_run) := ⟨rfl, rfl, rfl, by decide +kernel, rfl, by decide +kernel, by decide +kernel⟩
theorem sc_l_walked : FnScope ["_law_things_here", "_law_room_here", "_law_told", "_law_within", "_law_came", "_law_place", "_law_numbers", "_law_number", "_law_some"] ["_law_things_here", "_law_room_here", "_law_told"] (defScope st_l_walked) := ⟨rfl, rfl, rfl, by decide +kernel, rfl, by decide +kernel, by decide +kernel⟩
theorem sc_l_like_ones_right : FnScope ["_law_things_here", "_law_told", "_law_places", "_law_place", "_law_numbers", "_law_number", "_law_key_here"] ["_law_things_here", "_law_told"] (defScope st_l_like_ones_right) := ⟨rfl, rfl, rfl, by decide +kernel, rfl, by decide +kernel, by decide +kernel⟩
theorem sc_law : FnScope ["_law_script", "_law_k", "_law_left_here", "_law_things_here", "_law_room_here", "_law_told"] ["_law_script"] (defScope st_law) := ⟨rfl, rfl, rfl, by decide +kernel, rfl, by decide +kernel, by decide +kernel⟩
def scope_0 : Scope := { kind := .function, names := [(Str.ofString ".0", .«local»), (Str.ofString "_law_k", .«local»), (Str.ofString "_law_pick", .globalImplicit), (Str.ofString "_law_left_here", .free), (Str.ofString "_law_some", .free)], isGenerator := false, isCoroutine := false, more := [] }
theorem cs_0 : CompSc ["_law_left_here", "_law_some"] ["_law_left_here", "_law_some", "_law_k"] (defScope st_l_stems) scope_0 := ⟨rfl, rfl, by decide +kernel, by decide +kernel, by decide +kernel, by decide, by decide +kernel, by decide +kernel⟩
def scope_0r : Scope := { kind := .function, names := [(Str.ofString ".0", .«local»), (Str.ofString "_law_k", .«local»), (Str.ofString "_law_pick", .globalImplicit), (Str.ofString "_law_left_here", .cell), (Str.ofString "_law_some", .cell)], isGenerator := false, isCoroutine := false, more := [] }
def scope_1 : Scope := { kind := .function, names := [(Str.ofString ".0", .«local»), (Str.ofString "_law_k", .«local»), (Str.ofString "_law_pick", .globalImplicit), (Str.ofString "_law_left_here", .free)], isGenerator := false, isCoroutine := false, more := [] }
theorem cs_1 : CompSc ["_law_left_here", "_law_stems_here", "_law_tail"] ["_law_left_here", "_law_stems_here", "_law_tail", "_law_k"] (defScope st_l_key) scope_1 := ⟨rfl, rfl, by decide +kernel, by decide +kernel, by decide +kernel, by decide, by decide +kernel, by decide +kernel⟩
def scope_1r : Scope := { kind := .function, names := [(Str.ofString ".0", .«local»), (Str.ofString "_law_k", .«local»), (Str.ofString "_law_pick", .globalImplicit), (Str.ofString "_law_left_here", .cell)], isGenerator := false, isCoroutine := false, more := [] }
def scope_2 : Scope := { kind := .function, names := [(Str.ofString ".0", .«local»), (Str.ofString "number", .«local»), (Str.ofString "things", .free)], isGenerator := false, isCoroutine := false, more := [] }
theorem cs_2 : CompSc ["things", "room", "inside", "next_in", "runs", "goer", "run", "key", "number"] ["things", "room", "inside", "next_in", "runs", "goer", "run", "key", "?number", "number"] (defScope st_runs_of) scope_2 := ⟨rfl, rfl, by decide +kernel, by decide +kernel, by decide +kernel, by decide, by decide +kernel, by decide +kernel⟩
def scope_2r : Scope := { kind := .function, names := [(Str.ofString ".0", .«local»), (Str.ofString "number", .«local»), (Str.ofString "things", .cell)], isGenerator := false, isCoroutine := false, more := [] }
def scope_3 : Scope := { kind := .function, names := [(Str.ofString ".0", .«local»), (Str.ofString "_law_number", .«local»)], isGenerator := false, isCoroutine := false, more := [] }
theorem cs_3 : CompSc ["_law_things_here", "_law_room_here", "_law_told", "_law_within", "_law_came", "_law_place", "_law_numbers", "_law_number", "_law_some"] ["_law_things_here", "_law_room_here", "_law_told", "_law_within", "_law_came", "_law_place", "_law_numbers", "?_law_number", "_law_some", "_law_number"] (defScope st_l_walked) scope_3 := ⟨rfl, rfl, by decide +kernel, by decide +kernel, by decide +kernel, by decide, by decide +kernel, by decide +kernel⟩
def scope_3r : Scope := { kind := .function, names := [(Str.ofString ".0", .«local»), (Str.ofString "_law_number", .«local»)], isGenerator := false, isCoroutine := false, more := [] }
def scope_4 : Scope := { kind := .function, names := [(Str.ofString ".0", .«local»), (Str.ofString "_law_one", .«local»), (Str.ofString "_law_things_here", .free), (Str.ofString "_law_within", .free)], isGenerator := false, isCoroutine := false, more := [] }
theorem cs_4 : CompSc ["_law_things_here", "_law_room_here", "_law_told", "_law_within", "_law_came", "_law_place", "_law_numbers", "_law_number", "_law_some"] ["_law_things_here", "_law_room_here", "_law_told", "_law_within", "_law_came", "_law_place", "_law_numbers", "_law_number", "_law_some", "_law_one"] (defScope st_l_walked) scope_4 := ⟨rfl, rfl, by decide +kernel, by decide +kernel, by decide +kernel, by decide, by decide +kernel, by decide +kernel⟩
def scope_4r : Scope := { kind := .function, names := [(Str.ofString ".0", .«local»), (Str.ofString "_law_one", .«local»), (Str.ofString "_law_things_here", .cell), (Str.ofString "_law_within", .cell)], isGenerator := false, isCoroutine := false, more := [] }
def scope_5 : Scope := { kind := .function, names := [(Str.ofString ".0", .«local»), (Str.ofString "_law_number", .«local»), (Str.ofString "_law_place", .free)], isGenerator := false, isCoroutine := false, more := [] }
theorem cs_5 : CompSc ["_law_things_here", "_law_told", "_law_places", "_law_place", "_law_numbers", "_law_number", "_law_key_here"] ["_law_things_here", "_law_told", "_law_places", "_law_place", "_law_numbers", "?_law_number", "_law_key_here", "_law_number"] (defScope st_l_like_ones_right) scope_5 := ⟨rfl, rfl, by decide +kernel, by decide +kernel, by decide +kernel, by decide, by decide +kernel, by decide +kernel⟩
def scope_5r : Scope := { kind := .function, names := [(Str.ofString ".0", .«local»), (Str.ofString "_law_number", .«local»), (Str.ofString "_law_place", .cell)], isGenerator := false, isCoroutine := false, more := [] }
def scope_6 : Scope := { kind := .function, names := [(Str.ofString ".0", .«local»), (Str.ofString "_law_one", .«local»), (Str.ofString "_law_key_here", .free), (Str.ofString "_law_number", .free), (Str.ofString "_law_places", .free), (Str.ofString "_law_things_here", .free)], isGenerator := false, isCoroutine := false, more := [] }
theorem cs_6 : CompSc ["_law_things_here", "_law_told", "_law_places", "_law_place", "_law_numbers", "_law_number", "_law_key_here"] ["_law_things_here", "_law_told", "_law_places", "_law_place", "_law_numbers", "_law_number", "_law_key_here", "_law_one"] (defScope st_l_like_ones_right) scope_6 := ⟨rfl, rfl, by decide +kernel, by decide +kernel, by decide +kernel, by decide, by decide +kernel, by decide +kernel⟩
def scope_6r : Scope := { kind := .function, names := [(Str.ofString ".0", .«local»), (Str.ofString "_law_one", .«local»), (Str.ofString "_law_key_here", .cell), (Str.ofString "_law_number", .cell), (Str.ofString "_law_places", .cell), (Str.ofString "_law_things_here", .cell)], isGenerator := false, isCoroutine := false, more := [] }
def scope_7 : Scope := { kind := .function, names := [(Str.ofString ".0", .«local»), (Str.ofString "_law_numbers", .«local»), (Str.ofString "is_run", .globalImplicit), (Str.ofString "_law_things_here", .free)], isGenerator := false, isCoroutine := false, more := [] }
theorem cs_7 : CompSc ["_law_script", "_law_k", "_law_left_here", "_law_things_here", "_law_room_here", "_law_told"] ["_law_script", "_law_k", "_law_left_here", "_law_things_here", "_law_room_here", "_law_told", "_law_numbers"] (defScope st_law) scope_7 := ⟨rfl, rfl, by decide +kernel, by decide +kernel, by decide +kernel, by decide, by decide +kernel, by decide +kernel⟩
def scope_7r : Scope := { kind := .function, names := [(Str.ofString ".0", .«local»), (Str.ofString "_law_numbers", .«local»), (Str.ofString "is_run", .globalImplicit), (Str.ofString "_law_things_here", .cell)], isGenerator := false, isCoroutine := false, more := [] }
def scope_8 : Scope := { kind := .function, names := [(Str.ofString ".0", .«local»), (Str.ofString "_law_numbers", .«local»), (Str.ofString "len", .globalImplicit), (Str.ofString "_law_room_here", .free)], isGenerator := false, isCoroutine := false, more := [] }
theorem cs_8 : CompSc ["_law_script", "_law_k", "_law_left_here", "_law_things_here", "_law_room_here", "_law_told"] ["_law_script", "_law_k", "_law_left_here", "_law_things_here", "_law_room_here", "_law_told", "_law_numbers"] (defScope st_law) scope_8 := ⟨rfl, rfl, by decide +kernel, by decide +kernel, by decide +kernel, by decide, by decide +kernel, by decide +kernel⟩
def scope_8r : Scope := { kind := .function, names := [(Str.ofString ".0", .«local»), (Str.ofString "_law_numbers", .«local»), (Str.ofString "len", .globalImplicit), (Str.ofString "_law_room_here", .cell)], isGenerator := false, isCoroutine := false, more := [] }
structure Bt (mg : Str → Option Value) : Prop where
  n_abs : mg "abs" = none
  n_all : mg "all" = none
  n_any : mg "any" = none
  n_bool : mg "bool" = none
  n_dict : mg "dict" = none
  n_enumerate : mg "enumerate" = none
  n_int : mg "int" = none
  n_isinstance : mg "isinstance" = none
  n_len : mg "len" = none
  n_list : mg "list" = none
  n_min : mg "min" = none
  n_range : mg "range" = none
  n_sorted : mg "sorted" = none
structure Tops (K : PySem.W.Frag) (mg : Str → Option Value) : Prop where
  b : Bt mg
  t_is_number : Top K mg "is_number" st_is_number ["thing"]
  t_alike : Top K mg "alike" st_alike ["one", "other"]
  t_liken : Top K mg "liken" st_liken ["one", "other"]
  t_alike_from : Top K mg "alike_from" st_alike_from ["one", "other", "far"]
  t_order_at : Top K mg "order_at" st_order_at ["one", "other", "at"]
  t_runs_of : Top K mg "runs_of" st_runs_of ["things", "room"]
  t_run_behind : Top K mg "run_behind" st_run_behind ["run", "key", "comer"]
  t_is_run : Top K mg "is_run" st_is_run ["things", "thing"]
  t_l_mix : Top K mg "_law_mix" st_l_mix ["_law_cell", "_law_k"]
  t_l_left : Top K mg "_law_left" st_l_left ["_law_script", "_law_k"]
  t_l_pick : Top K mg "_law_pick" st_l_pick ["_law_left_here", "_law_many"]
  t_l_stems : Top K mg "_law_stems" st_l_stems ["_law_left_here"]
  t_l_key : Top K mg "_law_key" st_l_key ["_law_left_here", "_law_stems_here"]
  t_l_things : Top K mg "_law_things" st_l_things ["_law_left_here"]
  t_l_room : Top K mg "_law_room" st_l_room ["_law_left_here"]
  t_l_walked : Top K mg "_law_walked" st_l_walked ["_law_things_here", "_law_room_here", "_law_told"]
  t_l_like_ones_right : Top K mg "_law_like_ones_right" st_l_like_ones_right ["_law_things_here", "_law_told"]

def Left (H : Hp) (p : Addr) (c : Int) : Prop := ∃ a b : Int, H p = some (.lst [.int a, .int b, .int c]) ∧ 0 ≤ c
def But (p : Addr) (H H' : Hp) : Prop := ∀ b o, H b = some o → b ≠ p → H' b = some o
theorem But.trans {p : Addr} {H H1 H2 : Hp} (a : But p H H1) (b : But p H1 H2) : But p H H2 := fun c o h n => b c o (a c o h n) n
theorem But.same {p : Addr} {H H1 : Hp} (a : Same H H1) : But p H H1 := fun c o h _ => a c o h
theorem same_new {H : Hp} {p : Addr} (h : H p = none) (o : HO) : Same H (upd H p o) := fun b u q => by rw [upd_ne (ne_of_none q h)]; exact q
theorem small {n : Nat} (h : n ≤ 1000) : n ≤ sizeLine := Nat.le_of_lt (small1000 h)

def spMix : Sp := fun vs H Q _ => ∃ a k : Int, vs = [.int a, .int k] ∧ -(2 ^ 62) < k ∧ k < 2 ^ 62 ∧ ∀ r : Int, 0 ≤ r → r < 2000000000 → Q (.int r) H
def spLeft (K : PySem.W.Frag) : Sp := fun vs H Q _ => ∃ (a : Addr) (ns : List Int) (k : Int), vs = [.ref a, .int k] ∧ SqL K H a (ns.map V.int) ∧ ns.length ≤ 63 ∧ 0 ≤ k ∧ k < 100 ∧
  ∀ (p : Addr) (H' : Hp), H p = none → Left H' p 0 → Same H H' → Q (.ref p) H'
def spPick : Sp := fun vs H Q _ => ∃ (p : Addr) (c m : Int), vs = [.ref p, .int m] ∧ Left H p c ∧ c < 2 ^ 60 ∧ 0 < m ∧ m < 1000000 ∧
  ∀ (r : Int) (H' : Hp), 0 ≤ r → r < m → Left H' p (c + 1) → But p H H' → Q (.int r) H'
theorem at_int {ns : List Int} {k : Int} (h0 : 0 ≤ k) (h : k < (ns.length : Int)) : ∃ v : Int, atI (ns.map V.int) k = some (.int v) := by
  have hk : k.toNat < ns.length := by omega
  have ek : k = ((k.toNat : Nat) : Int) := by omega
  have q : atI (ns.map V.int) ((k.toNat : Nat) : Int) = some (.int ns[k.toNat]) := atI_nat (by rw [List.getElem?_map, List.getElem?_eq_getElem hk] <;> rfl)
  rw [← ek] at q
  exact ⟨_, q⟩
theorem at_str {ss : List Str} {k : Int} (h0 : 0 ≤ k) (h : k < (ss.length : Int)) : ∃ s ∈ ss, atI (ss.map V.str) k = some (.str s) := by
  have hk : k.toNat < ss.length := by omega
  have ek : k = ((k.toNat : Nat) : Int) := by omega
  have q : atI (ss.map V.str) ((k.toNat : Nat) : Int) = some (.str ss[k.toNat]) := atI_nat (by rw [List.getElem?_map, List.getElem?_eq_getElem hk] <;> rfl)
  rw [← ek] at q
  exact ⟨_, List.getElem_mem hk, q⟩
theorem bit01 (b : Bool) : -(2 ^ 64) < (if b = true then (1 : Int) else 0) ∧ (if b = true then (1 : Int) else 0) < 2 ^ 64 := by cases b <;> decide
theorem at_code {z : Str} {k : Int} (h0 : 0 ≤ k) (h : k < (z.length : Int)) : ∃ c : Nat, z.cps.toList[k.toNat]? = some c ∧ atI z.cps.toList k = some c := by
  have hl : z.cps.toList.length = z.length := by simp [Str.length]
  have hk : k.toNat < z.cps.toList.length := by omega
  have ek : k = ((k.toNat : Nat) : Int) := by omega
  have q : atI z.cps.toList ((k.toNat : Nat) : Int) = some z.cps.toList[k.toNat] := atI_nat (List.getElem?_eq_getElem hk)
  rw [← ek] at q
  exact ⟨_, List.getElem?_eq_getElem hk, q⟩
theorem join_len (sep : Str) (ys : List Str) : (Txt.join sep ys).length ≤ (ys.map (·.length)).sum + ys.length * sep.length := by
  have e : Txt.join sep ys = Str.join sep ys := by simpa using join_plain_closes sep ys
  rw [e]
  exact StrLaws.join_length_le sep ys
theorem sum_ones : ∀ ss : List Str, (∀ s ∈ ss, s.length ≤ 1) → (ss.map (·.length)).sum ≤ ss.length
  | [], _ => Nat.le_refl _
  | s :: r, h => by
    have h1 := h s List.mem_cons_self
    have h2 := sum_ones r fun x hx => h x (List.mem_cons_of_mem _ hx)
    rw [List.map_cons, List.sum_cons, List.length_cons]
    omega
/-- how many signs two have alike from the front on -/
def lcp : List Nat → List Nat → Nat
  | a :: r, b :: s => if a = b then lcp r s + 1 else 0
  | _, _ => 0
theorem lcp_le : ∀ (x y : List Nat), lcp x y ≤ x.length ∧ lcp x y ≤ y.length
  | [], _ => ⟨Nat.zero_le _, Nat.zero_le _⟩
  | _ :: _, [] => ⟨Nat.zero_le _, Nat.zero_le _⟩
  | a :: r, b :: s => by
    have h := lcp_le r s
    unfold lcp
    split
    · exact ⟨Nat.succ_le_succ h.1, Nat.succ_le_succ h.2⟩
    · exact ⟨Nat.zero_le _, Nat.zero_le _⟩
/-- one place further -/
theorem lcp_on : ∀ (x y : List Nat) (k : Nat), k ≤ lcp x y → ∀ a, x[k]? = some a → y[k]? = some a → k + 1 ≤ lcp x y
  | [], _, k, _, a, h, _ => by simp at h
  | _ :: _, [], k, _, a, _, h => by simp at h
  | a :: r, b :: s, 0, _, c, h1, h2 => by
    simp at h1 h2
    unfold lcp
    rw [if_pos (by rw [h1, h2])]
    omega
  | a :: r, b :: s, k + 1, h, c, h1, h2 => by
    unfold lcp at h ⊢
    by_cases e : a = b
    · rw [if_pos e] at h ⊢
      have := lcp_on r s k (by omega) c (by simpa using h1) (by simpa using h2)
      omega
    · rw [if_neg e] at h; omega
theorem lcp_in : ∀ (x y : List Nat) (k : Nat), k < lcp x y → x[k]? = y[k]?
  | [], _, k, h => by unfold lcp at h; omega
  | _ :: _, [], k, h => by unfold lcp at h; omega
  | a :: r, b :: s, 0, h => by
    unfold lcp at h
    by_cases e : a = b
    · simp [e]
    · rw [if_neg e] at h; omega
  | a :: r, b :: s, k + 1, h => by
    unfold lcp at h
    by_cases e : a = b
    · rw [if_pos e] at h
      simpa using lcp_in r s k (by omega)
    · rw [if_neg e] at h; omega
/-- where it ends -/
theorem lcp_end (x y : List Nat) (k : Nat) (h : k ≤ lcp x y) (n : x.length ≤ k ∨ y.length ≤ k ∨ ∃ a b, x[k]? = some a ∧ y[k]? = some b ∧ a ≠ b) : lcp x y = k := by
  have l := lcp_le x y
  rcases n with n | n | ⟨a, b, h1, h2, ne⟩
  · omega
  · omega
  · by_cases q : k < lcp x y
    · have := lcp_in x y k q
      rw [h1, h2] at this
      exact absurd (Option.some.inj this) ne
    · omega
abbrev cds (z : Str) : List Nat := z.cps.toList
/-- of letters a to z alone -/
def AZ (z : Str) : Prop := ∀ c ∈ cds z, 97 ≤ c ∧ c ≤ 122
theorem cds_app (x y : Str) : cds (x ++ y) = cds x ++ cds y := by
  show (x ++ y).cps.toList = _
  rw [PySem.Str.cps_append]
  simp
theorem AZ.app {x y : Str} (a : AZ x) (b : AZ y) : AZ (x ++ y) := fun c h => by
  rw [cds_app] at h
  exact (List.mem_append.mp h).elim (a c) (b c)
theorem AZ.nil : AZ "" := by unfold AZ cds; decide +kernel
theorem AZ.join : ∀ ys : List Str, (∀ s ∈ ys, AZ s) → AZ (Str.join "" ys)
  | [], _ => fun c h => by cases (show c ∈ ([] : List Nat) from h)
  | [x], h => h x (by simp)
  | x :: y :: r, h => ((h x (by simp)).app AZ.nil).app (AZ.join (y :: r) fun s hs => h s (List.mem_cons_of_mem _ hs))
theorem AZ.joinT (ys : List Str) (h : ∀ s ∈ ys, AZ s) : AZ (Txt.join "" ys) := by
  have e : Txt.join "" ys = Str.join "" ys := by simpa using join_plain_closes "" ys
  rw [e]
  exact AZ.join ys h
theorem AZ.one {z : Str} (a : AZ z) {k : Nat} {c : Nat} (h : z.cps.toList[k]? = some c) : AZ ⟨#[c]⟩ := fun d hd => by
  have e : d = c := by simpa using hd
  rw [e]
  exact a c (List.mem_of_getElem? h)
theorem AZ.ok {z : Str} (a : AZ z) : PyData.strOk z = true := by
  unfold PyData.strOk
  rw [Array.all_eq_true]
  intro i hi
  have := a z.cps[i] (by simp)
  exact decide_eq_true (by omega)
theorem az_six : AZ "ababcz" := by unfold AZ cds; decide +kernel
def spAlike : Sp := fun vs H Q _ => ∃ x y : Str, vs = [.str x, .str y] ∧ x.length ≤ 1000 ∧ y.length ≤ 1000 ∧ Q (.int (lcp (cds x) (cds y))) H
def spAlikeFrom : Sp := fun vs H Q _ => ∃ (x y : Str) (far : Nat), vs = [.str x, .str y, .int far] ∧ x.length ≤ 1000 ∧ y.length ≤ 1000 ∧ far ≤ lcp (cds x) (cds y) ∧ Q (.int (lcp (cds x) (cds y))) H
/-- equal data, of both kinds alike, less than n deep -/
def IsD (H : Hp) : Nat → V → V → Prop
  | 0, _, _ => False
  | n + 1, x, y => (x = y ∧ (x = .non ∨ (∃ b, x = .bl b) ∨ (∃ i, x = .int i) ∨ ∃ s, x = .str s)) ∨
      (∃ (p q : Addr) (xs ys : List V), x = .ref p ∧ y = .ref q ∧ ((H p = some (.lst xs) ∧ H q = some (.lst ys)) ∨ (H p = some (.tup xs) ∧ H q = some (.tup ys))) ∧ xs.length = ys.length ∧ xs.length ≤ 1000 ∧ ∀ (i : Nat) (x y : V), xs[i]? = some x → ys[i]? = some y → IsD H n x y)
def spSame (n : Nat) : Sp := fun vs H Q _ => ∃ x y : V, vs = [x, y] ∧ IsD H n x y ∧ ∀ H', Same H H' → Q (.bl true) H'
section
variable (K : PySem.W.Frag)
open PySem.W
theorem k_lst_lst : kitOne K (.type "list") (.type "list") = some true := by unfold kitOne kitCls; rfl
theorem k_int_bl : kitOne K (.type "int") (.type "bool") = some false := by unfold kitOne kitCls; rfl
theorem k_int_int : kitOne K (.type "int") (.type "int") = some true := by unfold kitOne kitCls; rfl
end
section
variable {P : Program} {w : World} {K : PySem.W.Frag} {mg : Str → Option Value} {base : Heap}
theorem ok_mix (T : Tops K mg) : Df P w K mg base 1 "_law_mix" ["_law_cell", "_law_k"] spMix := by
  refine T.t_l_mix.df sc_l_mix (fun vs H Q E h => ?_) (fun cdv f A outer s H vs Q E hr h => ?_)
  · obtain ⟨a, k, rfl, _⟩ := h
    rfl
  obtain ⟨a, k, rfl, k1, k2, q⟩ := h
  refine ⟨_, (@pss_cons _ _ _ _ _ (@ps_set _ _ 2 _ _ _ _ sc_l_mix.nd rfl (Or.inl rfl) (@pe_op _ _ _ _ _ _ _ _ op_mod (@pe_op _ _ _ _ _ _ _ _ op_mul (@pe_op _ _ _ _ _ _ _ _ op_add (@pe_op _ _ _ _ _ _ _ _ op_add (@pe_op _ _ _ _ _ _ _ _ op_mod (@pv _ 0 _ _ (by rfl) (Or.inl rfl) (by decide) (by decide)) (@pe_int _ _ _ _)) (@pe_op _ _ _ _ _ _ _ _ op_mul (@pe_op _ _ _ _ _ _ _ _ op_mul (@pv _ 1 _ _ (by rfl) (Or.inl rfl) (by decide) (by decide)) (@pv _ 1 _ _ (by rfl) (Or.inl rfl) (by decide) (by decide))) (@pe_int _ _ _ _))) (@pe_int _ _ _ _)) (@pe_int _ _ _ _)) (@pe_int _ _ _ _)) (by rfl) (by first | exact .inl rfl | exact .inr rfl)) (@pss_one _ _ _ (@ps_ret _ _ _ _ (@pe_op _ _ _ _ _ _ _ _ op_mod (@pe_op _ _ _ _ _ _ _ _ op_mul (@pv _ 2 _ _ (by rfl) (Or.inl rfl) (by decide) (by decide)) (@pv _ 2 _ _ (by rfl) (Or.inl rfl) (by decide) (by decide))) (@pe_int _ _ _ _))))), ?_⟩
  refine ⟨_, rfl, _, _, rfl, rfl, (by show (0 : Int) < _; decide), _, rfl, _, rfl, _, _, rfl, rfl, .inl ⟨by omega, by omega⟩, _, _, rfl, rfl, .inr ⟨by decide, by decide⟩, _, _, rfl, rfl, _, _, rfl, rfl, _, _, rfl, rfl, .inr ⟨by decide, by decide⟩, _, _, rfl, rfl, (by show (0 : Int) < _; decide), ?_⟩
  have m0 := Int.emod_nonneg ((a % 2147483629 + k * k * 7919 + 11) * 48271) (show (2147483647 : Int) ≠ 0 by decide)
  have m1 := Int.emod_lt_of_pos ((a % 2147483629 + k * k * 7919 + 11) * 48271) (show (0 : Int) < 2147483647 by decide)
  refine ⟨_, rfl, _, rfl, _, _, rfl, rfl, .inl ⟨by omega, by omega⟩, _, _, rfl, rfl, (by show (0 : Int) < _; decide), ?_⟩
  exact q _ (Int.emod_nonneg _ (by decide)) (Int.lt_trans (Int.emod_lt_of_pos _ (by decide)) (by decide))
theorem ok_left (T : Tops K mg) : Df P w K mg base 1 "_law_left" ["_law_script", "_law_k"] (spLeft K) := by
  refine T.t_l_left.df sc_l_left (fun vs H Q E h => ?_) (fun cdv f A outer s H vs Q E hr h => ?_)
  · obtain ⟨a, ns, k, rfl, _⟩ := h
    rfl
  obtain ⟨a, ns, k, rfl, hS, h63, k0, k1, q⟩ := h
  refine ⟨_, (@pss_cons _ _ _ _ _ (@ps_set _ _ 2 _ _ _ _ sc_l_left.nd rfl (Or.inl rfl) (@pe_ifExp _ _ _ _ _ _ _ _ (@pt_cmpR _ _ _ _ _ _ _ _ op_lt (@pv _ 1 _ _ (by rfl) (Or.inl rfl) (by decide) (by decide)) (@pe_callB _ _ _ _ _ _ _ _ _ (lenQ K) (by rfl) T.b.n_len PySem.boot_len (@pa_cons _ _ _ _ _ (@pv _ 0 _ _ (by rfl) (Or.inl rfl) (by decide) (by decide)) (@pa_nil _) (by rfl)) (by decide) (by decide) (by rfl) (by rfl)) (nomark _)) (@pe_ix _ _ _ _ _ _ _ (ixL K) (@pv _ 0 _ _ (by rfl) (Or.inl rfl) (by decide) (by decide)) (@pv _ 1 _ _ (by rfl) (Or.inl rfl) (by decide) (by decide)) (fun _ _ => rfl)) (@pe_int _ _ _ _)) (by rfl) (by first | exact .inl rfl | exact .inr rfl)) (@pss_one _ _ _ (@ps_ret _ _ _ _ (@pe_lst _ _ _ _ (@pa_cons _ _ _ _ _ (@pe_op _ _ _ _ _ _ _ _ op_mul (@pe_callB _ _ _ _ _ _ _ _ _ call_abs (by rfl) T.b.n_abs boot_abs (@pa_cons _ _ _ _ _ (@pv _ 2 _ _ (by rfl) (Or.inl rfl) (by decide) (by decide)) (@pa_nil _) (by rfl)) (by decide) (by decide) (by rfl) (by rfl)) (@pe_callTy _ _ _ _ _ _ _ _ _ call_int1 (by rfl) T.b.n_int boot_int (@pa_cons _ _ _ _ _ (@pe_cmpR _ _ _ _ _ _ _ _ op_ge (@pe_callB _ _ _ _ _ _ _ _ _ call_abs (by rfl) T.b.n_abs boot_abs (@pa_cons _ _ _ _ _ (@pv _ 2 _ _ (by rfl) (Or.inl rfl) (by decide) (by decide)) (@pa_nil _) (by rfl)) (by decide) (by decide) (by rfl) (by rfl)) (@pe_op _ _ _ _ _ _ _ _ op_pow (@pe_int _ _ _ _) (@pe_int _ _ _ _)) (nomark _)) (@pa_nil _) (by rfl)) (by decide) (by decide) (by rfl) (by rfl))) (@pa_cons _ _ _ _ _ (@pe_op _ _ _ _ _ _ _ _ op_add (@pv _ 2 _ _ (by rfl) (Or.inl rfl) (by decide) (by decide)) (@pe_op _ _ _ _ _ _ _ _ op_mul (@pe_int _ _ _ _) (@pv _ 1 _ _ (by rfl) (Or.inl rfl) (by decide) (by decide)))) (@pa_cons _ _ _ _ _ (@pe_int _ _ _ _) (@pa_nil _) (by rfl)) (by rfl)) (by rfl)))))), ?_⟩
  have hl : (ns.map V.int).length = ns.length := List.length_map _
  have pw : CPow 10 18 := ⟨by decide, by decide, by decide⟩
  refine ⟨_, rfl, _, rfl, a, _, rfl, .inl hS, _, _, rfl, rfl, _, rfl, ?_⟩
  refine ite2 (fun c => ?_) (fun c => ?_)
  · have c' : k < (((ns.map V.int).length : Nat) : Int) := of_decide_eq_true c
    rw [hl] at c'
    obtain ⟨v, hv⟩ := at_int (ns := ns) k0 c'
    refine ⟨_, rfl, _, rfl, a, _, _, _, rfl, rfl, hS, hv, ?_⟩
    refine ⟨_, rfl, _, rfl, _, rfl, _, rfl, _, _, rfl, rfl, pw, _, _, rfl, rfl, .inr ⟨_, rfl, _, _, rfl, rfl, .inr (bit01 _), _, rfl, _, rfl, _, _, rfl, rfl, .inl ⟨by decide, by decide⟩, _, _, rfl, rfl, (by show 3 ≤ sizeLine; decide), fun p hp => ?_⟩⟩
    exact q p _ hp ⟨_, _, upd_same, Int.le_refl _⟩ (same_new hp _)
  · refine ⟨_, rfl, _, rfl, _, rfl, _, rfl, _, _, rfl, rfl, pw, _, _, rfl, rfl, .inr ⟨_, rfl, _, _, rfl, rfl, .inr (bit01 _), _, rfl, _, rfl, _, _, rfl, rfl, .inl ⟨by decide, by decide⟩, _, _, rfl, rfl, (by show 3 ≤ sizeLine; decide), fun p hp => ?_⟩⟩
    exact q p _ hp ⟨_, _, upd_same, Int.le_refl _⟩ (same_new hp _)
theorem ok_pick (T : Tops K mg) (f_l_mix : Df P w K mg base 1 "_law_mix" ["_law_cell", "_law_k"] spMix) : Df P w K mg base 2 "_law_pick" ["_law_left_here", "_law_many"] spPick := by
  refine T.t_l_pick.df sc_l_pick (fun vs H Q E h => ?_) (fun cdv f A outer s H vs Q E hr h => ?_)
  · obtain ⟨p, c, m, rfl, _⟩ := h
    rfl
  obtain ⟨p, c, m, rfl, ⟨a, b, hp, c0⟩, c1, m0, m1, q⟩ := h
  refine ⟨_, (@pss_cons _ _ _ _ _ (@ps_asg _ _ _ _ _ _ (@pe_op _ _ _ _ _ _ _ _ op_add (@pe_ix _ _ _ _ _ _ _ (ixL K) (@pv _ 0 _ _ (by rfl) (Or.inl rfl) (by decide) (by decide)) (@pe_int _ _ _ _) (fun _ _ => rfl)) (@pe_int _ _ _ _)) (@pg_sub _ _ _ _ _ _ _ (@pv _ 0 _ _ (by rfl) (Or.inl rfl) (by decide) (by decide)) (@pe_int _ _ _ _) set_list (by intro _; rfl)) (by rfl) (by rfl) (by rfl)) (@pss_cons _ _ _ _ _ (@ps_if _ _ _ _ _ _ _ _ (@pt_cmpR _ _ _ _ _ _ _ _ op_gt (@pe_ix _ _ _ _ _ _ _ (ixL K) (@pv _ 0 _ _ (by rfl) (Or.inl rfl) (by decide) (by decide)) (@pe_int _ _ _ _) (fun _ _ => rfl)) (@pe_int _ _ _ _) (nomark _)) (@pss_cons _ _ _ _ _ (@ps_set _ _ 2 _ _ _ _ sc_l_pick.nd rfl (Or.inl rfl) (@pe_op _ _ _ _ _ _ _ _ op_mod (@pe_ix _ _ _ _ _ _ _ (ixL K) (@pv _ 0 _ _ (by rfl) (Or.inl rfl) (by decide) (by decide)) (@pe_int _ _ _ _) (fun _ _ => rfl)) (@pv _ 1 _ _ (by rfl) (Or.inl rfl) (by decide) (by decide))) (by rfl) (by first | exact .inl rfl | exact .inr rfl)) (@pss_cons _ _ _ _ _ (@ps_asg _ _ _ _ _ _ (@pe_op _ _ _ _ _ _ _ _ op_fdiv (@pe_ix _ _ _ _ _ _ _ (ixL K) (@pv _ 0 _ _ (by rfl) (Or.inl rfl) (by decide) (by decide)) (@pe_int _ _ _ _) (fun _ _ => rfl)) (@pv _ 1 _ _ (by rfl) (Or.inl rfl) (by decide) (by decide))) (@pg_sub _ _ _ _ _ _ _ (@pv _ 0 _ _ (by rfl) (Or.inl rfl) (by decide) (by decide)) (@pe_int _ _ _ _) set_list (by intro _; rfl)) (by rfl) (by rfl) (by rfl)) (@pss_one _ _ _ (@ps_ret _ _ _ _ (@pv _ 2 _ _ (by rfl) (Or.inl rfl) (by decide) (by decide)))))) (@pss_nil _)) (@pss_one _ _ _ (@ps_ret _ _ _ _ (@pe_op _ _ _ _ _ _ _ _ op_mod (@pe_op _ _ _ _ _ _ _ _ op_fdiv (@pe_df _ _ _ _ _ _ _ _ _ _ _ f_l_mix hr (@pa_cons _ _ _ _ _ (@pe_df _ _ _ _ _ _ _ _ _ _ _ f_l_mix hr (@pa_cons _ _ _ _ _ (@pe_ix _ _ _ _ _ _ _ (ixL K) (@pv _ 0 _ _ (by rfl) (Or.inl rfl) (by decide) (by decide)) (@pe_int _ _ _ _) (fun _ _ => rfl)) (@pa_cons _ _ _ _ _ (@pe_ix _ _ _ _ _ _ _ (ixL K) (@pv _ 0 _ _ (by rfl) (Or.inl rfl) (by decide) (by decide)) (@pe_int _ _ _ _) (fun _ _ => rfl)) (@pa_nil _) (by rfl)) (by rfl)) (by first | decide | exact Nat.le_refl _ | omega) (by rfl) (by decide) (by rfl) (by rfl)) (@pa_cons _ _ _ _ _ (@pe_op _ _ _ _ _ _ _ _ op_add (@pe_ix _ _ _ _ _ _ _ (ixL K) (@pv _ 0 _ _ (by rfl) (Or.inl rfl) (by decide) (by decide)) (@pe_int _ _ _ _) (fun _ _ => rfl)) (@pe_int _ _ _ _)) (@pa_nil _) (by rfl)) (by rfl)) (by first | decide | exact Nat.le_refl _ | omega) (by rfl) (by decide) (by rfl) (by rfl)) (@pe_int _ _ _ _)) (@pv _ 1 _ _ (by rfl) (Or.inl rfl) (by decide) (by decide))))))), ?_⟩
  have u1 : (upd H p (.lst [.int a, .int b, .int (c + 1)])) p = some (.lst [.int a, .int b, .int (c + 1)]) := upd_same
  refine ⟨_, rfl, p, _, _, _, rfl, rfl, SqL.of hp, rfl, _, _, rfl, rfl, _, rfl, p, _, _, 2, rfl, rfl, hp, rfl, ?_⟩
  refine ⟨_, rfl, p, _, _, _, rfl, rfl, SqL.of u1, rfl, _, _, rfl, rfl, _, rfl, ?_⟩
  refine ite2 (fun d => ?_) (fun d => ?_)
  · refine ⟨_, rfl, p, _, _, _, rfl, rfl, SqL.of u1, rfl, _, rfl, _, _, rfl, rfl, m0, ?_⟩
    refine ⟨_, rfl, p, _, _, _, rfl, rfl, SqL.of u1, rfl, _, rfl, _, _, rfl, rfl, ⟨m0, by omega⟩, _, rfl, p, _, _, 0, rfl, rfl, u1, rfl, ?_⟩
    refine ⟨_, rfl, ?_⟩
    refine q _ _ (Int.emod_nonneg _ (by omega)) (Int.emod_lt_of_pos _ m0) ⟨a / m, b, upd_same, by omega⟩ fun e o h n => ?_
    rw [upd_ne n, upd_ne n]
    exact h
  · refine ⟨_, rfl, p, _, _, _, rfl, rfl, SqL.of u1, rfl, _, rfl, p, _, _, _, rfl, rfl, SqL.of u1, rfl, _, _, rfl, by omega, by omega, fun r r0 r1 => ?_⟩
    refine ⟨_, rfl, p, _, _, _, rfl, rfl, SqL.of u1, rfl, _, _, rfl, rfl, _, _, rfl, by omega, by omega, fun r' r0' r1' => ?_⟩
    refine ⟨_, _, rfl, rfl, ⟨by decide, by decide⟩, _, rfl, _, _, rfl, rfl, m0, ?_⟩
    refine q _ _ (Int.emod_nonneg _ (by omega)) (Int.emod_lt_of_pos _ m0) ⟨a, b, upd_same, by omega⟩ fun e o h n => ?_
    rw [upd_ne n]
    exact h
def stems12 : List Str := ["", "a", "ab", "aba", "abab", "b", "zebra", "aaaaaaaa", "knowswho", "z", "abababababab", Txt.mul "a" 24]
theorem stems12_len : ∀ s ∈ stems12, s.length ≤ 24 := by decide +kernel
theorem stems12_az : ∀ s ∈ stems12, AZ s := by unfold AZ cds; decide +kernel
def spStems : Sp := fun vs H Q _ => ∃ (p : Addr) (c : Int), vs = [.ref p] ∧ Left H p c ∧ c < 2 ^ 50 ∧
  ∀ (l : Addr) (ss : List Str) (c' : Int) (H' : Hp), H l = none → H' l = some (.lst (ss.map V.str)) → 1 ≤ ss.length → ss.length ≤ 4 → (∀ s ∈ ss, s.length ≤ 24 ∧ AZ s) → Left H' p c' → c ≤ c' → c' ≤ c + 5 → But p H H' → Q (.ref l) H'
def spKey : Sp := fun vs H Q _ => ∃ (p l : Addr) (c : Int) (ss : List Str), vs = [.ref p, .ref l] ∧ Left H p c ∧ c < 2 ^ 50 ∧ H l = some (.lst (ss.map V.str)) ∧ 1 ≤ ss.length ∧ ss.length ≤ 4 ∧ (∀ s ∈ ss, s.length ≤ 24 ∧ AZ s) ∧
  ∀ (z : Str) (c' : Int) (H' : Hp), z.length ≤ 28 → AZ z → Left H' p c' → c ≤ c' → c' ≤ c + 6 → But p H H' → Q (.str z) H'
theorem ok_stems (T : Tops K mg) (f_l_pick : Df P w K mg base 2 "_law_pick" ["_law_left_here", "_law_many"] spPick) : Df P w K mg base 3 "_law_stems" ["_law_left_here"] spStems := by
  refine T.t_l_stems.df sc_l_stems (fun vs H Q E h => ?_) (fun cdv f A outer s H vs Q E hr h => ?_)
  · obtain ⟨p, c, rfl, _⟩ := h
    rfl
  obtain ⟨p, c, rfl, hL, c1, q⟩ := h
  refine ⟨_, (@pss_cons _ _ _ _ _ (@ps_set _ _ 1 _ _ _ _ sc_l_stems.nd rfl (Or.inr rfl) (@pe_lst _ _ _ _ (@pa_cons _ _ _ _ _ (@pe_str _ _ _ _) (@pa_cons _ _ _ _ _ (@pe_str _ _ _ _) (@pa_cons _ _ _ _ _ (@pe_str _ _ _ _) (@pa_cons _ _ _ _ _ (@pe_str _ _ _ _) (@pa_cons _ _ _ _ _ (@pe_str _ _ _ _) (@pa_cons _ _ _ _ _ (@pe_str _ _ _ _) (@pa_cons _ _ _ _ _ (@pe_str _ _ _ _) (@pa_cons _ _ _ _ _ (@pe_str _ _ _ _) (@pa_cons _ _ _ _ _ (@pe_str _ _ _ _) (@pa_cons _ _ _ _ _ (@pe_str _ _ _ _) (@pa_cons _ _ _ _ _ (@pe_str _ _ _ _) (@pa_cons _ _ _ _ _ (@pe_op _ _ _ _ _ _ _ _ op_mulS (@pe_str _ _ _ _) (@pe_int _ _ _ _)) (@pa_nil _) (by rfl)) (by rfl)) (by rfl)) (by rfl)) (by rfl)) (by rfl)) (by rfl)) (by rfl)) (by rfl)) (by rfl)) (by rfl)) (by rfl))) (by rfl) (by first | exact .inl rfl | exact .inr rfl)) (@pss_one _ _ _ (@ps_ret _ _ _ _ (@pe_comp _ _ _ _ _ _ _ _ _ _ _ _ _ _ cs_0 rfl rfl rfl (@pi_range1 _ _ _ _ _ _ rfl T.b.n_range (@pa_cons _ _ _ _ _ (@pe_op _ _ _ _ _ _ _ _ op_add (@pe_int _ _ _ _) (@pe_df _ _ _ _ _ _ _ _ _ _ _ f_l_pick hr (@pa_cons _ _ _ _ _ (@pv _ 0 _ _ (by rfl) (Or.inr (Or.inl rfl)) (by decide) (by decide)) (@pa_cons _ _ _ _ _ (@pe_int _ _ _ _) (@pa_nil _) (by rfl)) (by rfl)) (by first | decide | exact Nat.le_refl _ | omega) (by rfl) (by decide) (by rfl) (by rfl))) (@pa_nil _) (by rfl)) (by rfl)) (fun _ _ _ _ => (@cg _ _ _ _ _ _ _ _ _ _ _ 2 cs_0 rfl (by decide +kernel) (by rfl))) (fun _ _ _ _ => (@pts_nil _)) (fun _ _ _ _ => (@pe_ix _ _ _ _ _ _ _ (ixL K) (@cv _ _ _ _ _ _ _ _ _ _ _ 1 cs_0 rfl (by decide +kernel) (by rfl) (by decide) (by decide)) (@pe_df _ _ _ _ _ _ _ _ _ _ _ f_l_pick hr (@pa_cons _ _ _ _ _ (@cv _ _ _ _ _ _ _ _ _ _ _ 0 cs_0 rfl (by decide +kernel) (by rfl) (by decide) (by decide)) (@pa_cons _ _ _ _ _ (@pe_int _ _ _ _) (@pa_nil _) (by rfl)) (by rfl)) (by first | decide | exact Nat.le_refl _ | omega) (comp_glob cs_0 rfl (by decide +kernel)) (by decide) (by rfl) (by rfl)) (fun _ _ => rfl))) (by intro _; rfl))))), ?_⟩
  refine ⟨_, _, rfl, rfl, by decide, by decide, by decide, (by show 12 ≤ sizeLine; decide), fun l hl => ?_⟩
  have npl : p ≠ l := by obtain ⟨a, b, hp, _⟩ := hL; exact ne_of_none hp hl
  have hL1 : Left (upd H l (.lst (stems12.map V.str))) p c := by obtain ⟨a, b, hp, c0⟩ := hL; exact ⟨a, b, by rw [upd_ne npl]; exact hp, c0⟩
  refine ⟨_, rfl, p, c, _, rfl, hL1, by omega, by decide, by decide, fun r H1 r0 r1 L1 B1 => ?_⟩
  refine ⟨_, _, rfl, rfl, _, rfl, by omega, by omega, fun D hD => ?_⟩
  have c0 : 0 ≤ c := by obtain ⟨a, b, hp, c0⟩ := hL; exact c0
  have h1l : H1 l = some (.lst (stems12.map V.str)) := B1 l _ upd_same npl.symm
  have npD : p ≠ D := by obtain ⟨a, b, hp, _⟩ := L1; exact ne_of_none hp hD
  have nlD : l ≠ D := ne_of_none h1l hD
  refine comp_range (fun i ys σ H2 => ∃ (ss : List Str) (v : Option V) (c2 : Int), σ = [some (.ref p), some (.ref l), v] ∧ ys = ss.map V.str ∧ ss.length = i ∧ (∀ s ∈ ss, s.length ≤ 24 ∧ AZ s) ∧ Left H2 p c2 ∧ c + 1 ≤ c2 ∧ c2 ≤ c + 1 + i ∧
      H2 l = some (.lst (stems12.map V.str)) ∧ H2 D = some (.lst ys) ∧ But p H H2) ?_ ?_ ?_
  · refine ⟨[], none, c + 1, rfl, rfl, rfl, (fun s hs => by cases hs), ?_, by omega, by omega, ?_, upd_same, ?_⟩
    · obtain ⟨a, b, hp, q0⟩ := L1
      exact ⟨a, b, by rw [upd_ne npD]; exact hp, q0⟩
    · rw [upd_ne nlD]; exact h1l
    · intro b o e n
      have e1 : (upd H l (.lst (stems12.map V.str))) b = some o := by rw [upd_ne (ne_of_none e hl)]; exact e
      have e2 := B1 b o e1 n
      rw [upd_ne (ne_of_none e2 hD)]
      exact e2
  · rintro i ys σ H2 hi ⟨ss, v, c2, rfl, rfl, hn, hs, L2', b1, b2, hl2, hD2, B2⟩
    refine ⟨_, rfl, _, rfl, p, c2, _, rfl, L2', by omega, by decide, by decide, fun r' H3 r0' r1' L3 B3 => ?_⟩
    obtain ⟨s, hs1, hs2⟩ := at_str (ss := stems12) r0' r1'
    have hD3 : H3 D = some (.lst (ss.map V.str)) := B3 D _ hD2 npD.symm
    have hl3 : H3 l = some (.lst (stems12.map V.str)) := B3 l _ hl2 npl.symm
    refine ⟨l, _, _, _, rfl, rfl, SqL.of hl3, hs2, hD3, (by rw [List.length_map, hn]; exact small1000 (by omega)), ss ++ [s], _, c2 + 1, rfl, ?_, ?_, ?_, ?_, by omega, by omega, ?_, upd_same, ?_⟩
    · rw [List.map_append]; rfl
    · rw [List.length_append, hn]; rfl
    · intro x hx
      rcases List.mem_append.mp hx with hx | hx
      · exact hs x hx
      · rw [List.mem_singleton.mp hx]; exact ⟨stems12_len s hs1, stems12_az s hs1⟩
    · obtain ⟨a, b, hp, q0⟩ := L3
      exact ⟨a, b, by rw [upd_ne npD]; exact hp, q0⟩
    · rw [upd_ne nlD]; exact hl3
    · intro b o e n
      have e2 := B3 b o (B2 b o e n) n
      have e3 : H D = none := by
        cases w' : H D with
        | none => rfl
        | some u =>
          have nDp : D ≠ p := npD.symm
          have z1 : (upd H l (.lst (stems12.map V.str))) D = some u := by rw [upd_ne nlD.symm]; exact w'
          rw [B1 D u z1 nDp] at hD
          cases hD
      rw [upd_ne (ne_of_none e e3)]
      exact e2
  · rintro ys σ H2 ⟨ss, v, c2, rfl, rfl, hn, hs, L2', b1, b2, hl2, hD2, B2⟩
    have e3 : H D = none := by
      cases w' : H D with
      | none => rfl
      | some u =>
        have z1 : (upd H l (.lst (stems12.map V.str))) D = some u := by rw [upd_ne nlD.symm]; exact w'
        rw [B1 D u z1 npD.symm] at hD
        cases hD
    exact q D ss c2 H2 e3 hD2 (by omega) (by omega) hs L2' (by omega) (by omega) B2
theorem ok_key (T : Tops K mg) (f_l_pick : Df P w K mg base 2 "_law_pick" ["_law_left_here", "_law_many"] spPick) : Df P w K mg base 3 "_law_key" ["_law_left_here", "_law_stems_here"] spKey := by
  refine T.t_l_key.df sc_l_key (fun vs H Q E h => ?_) (fun cdv f A outer s H vs Q E hr h => ?_)
  · obtain ⟨p, l, c, ss, rfl, _⟩ := h
    rfl
  obtain ⟨p, l, c, ss, rfl, hL, c1, hl, n1, n4, h24, q⟩ := h
  refine ⟨_, (@pss_cons _ _ _ _ _ (@ps_set _ _ 2 _ _ _ _ sc_l_key.nd rfl (Or.inl rfl) (@pe_bm _ _ _ _ _ _ _ _ _ _ _ _ PySem.F.plainAttrs_str PySem.F.slot_str_join PySem.F.type_str_join (joinQ K) (@pe_str _ _ _ _) (@pa_cons _ _ _ _ _ (@pe_comp _ _ _ _ _ _ _ _ _ _ _ _ _ _ cs_1 rfl rfl rfl (@pi_range1 _ _ _ _ _ _ rfl T.b.n_range (@pa_cons _ _ _ _ _ (@pe_df _ _ _ _ _ _ _ _ _ _ _ f_l_pick hr (@pa_cons _ _ _ _ _ (@pv _ 0 _ _ (by rfl) (Or.inr (Or.inl rfl)) (by decide) (by decide)) (@pa_cons _ _ _ _ _ (@pe_int _ _ _ _) (@pa_nil _) (by rfl)) (by rfl)) (by first | decide | exact Nat.le_refl _ | omega) (by rfl) (by decide) (by rfl) (by rfl)) (@pa_nil _) (by rfl)) (by rfl)) (fun _ _ _ _ => (@cg _ _ _ _ _ _ _ _ _ _ _ 3 cs_1 rfl (by decide +kernel) (by rfl))) (fun _ _ _ _ => (@pts_nil _)) (fun _ _ _ _ => (@pe_ix _ _ _ _ _ _ _ ix_str (@pe_str _ _ _ _) (@pe_df _ _ _ _ _ _ _ _ _ _ _ f_l_pick hr (@pa_cons _ _ _ _ _ (@cv _ _ _ _ _ _ _ _ _ _ _ 0 cs_1 rfl (by decide +kernel) (by rfl) (by decide) (by decide)) (@pa_cons _ _ _ _ _ (@pe_int _ _ _ _) (@pa_nil _) (by rfl)) (by rfl)) (by first | decide | exact Nat.le_refl _ | omega) (comp_glob cs_1 rfl (by decide +kernel)) (by decide) (by rfl) (by rfl)) (fun _ _ => rfl))) (by intro _; rfl)) (@pa_nil _) (by rfl)) (by rfl) (by rfl) (by rfl) (by rfl) (by rfl)) (by rfl) (by first | exact .inl rfl | exact .inr rfl)) (@pss_one _ _ _ (@ps_ret _ _ _ _ (@pe_op _ _ _ _ _ _ _ _ op_add_str (@pe_ix _ _ _ _ _ _ _ (ixL K) (@pv _ 1 _ _ (by rfl) (Or.inl rfl) (by decide) (by decide)) (@pe_df _ _ _ _ _ _ _ _ _ _ _ f_l_pick hr (@pa_cons _ _ _ _ _ (@pv _ 0 _ _ (by rfl) (Or.inr (Or.inl rfl)) (by decide) (by decide)) (@pa_cons _ _ _ _ _ (@pe_callB _ _ _ _ _ _ _ _ _ (lenQ K) (by rfl) T.b.n_len PySem.boot_len (@pa_cons _ _ _ _ _ (@pv _ 1 _ _ (by rfl) (Or.inl rfl) (by decide) (by decide)) (@pa_nil _) (by rfl)) (by decide) (by decide) (by rfl) (by rfl)) (@pa_nil _) (by rfl)) (by rfl)) (by first | decide | exact Nat.le_refl _ | omega) (by rfl) (by decide) (by rfl) (by rfl)) (fun _ _ => rfl)) (@pv _ 2 _ _ (by rfl) (Or.inl rfl) (by decide) (by decide)))))), ?_⟩
  have c0 : 0 ≤ c := by obtain ⟨a, b, hp, c0⟩ := hL; exact c0
  have npl : p ≠ l := by
    obtain ⟨a, b, hp, _⟩ := hL
    refine ne_of hp hl fun e => ?_
    have e1 := congrArg List.length (HO.lst.inj e)
    cases ss with
    | nil => cases e1
    | cons x r => exact absurd (HO.lst.inj e) (by intro z; cases z)
  refine ⟨rfl, _, rfl, p, c, _, rfl, hL, by omega, by decide, by decide, fun r H1 r0 r1 L1 B1 => ?_⟩
  refine ⟨_, rfl, by omega, by omega, fun D hD => ?_⟩
  have npD : p ≠ D := by obtain ⟨a, b, hp, _⟩ := L1; exact ne_of_none hp hD
  have h1l := B1 l _ hl npl.symm
  have nlD : l ≠ D := ne_of_none h1l hD
  have hDn : H D = none := by
    cases w' : H D with
    | none => rfl
    | some u => rw [B1 D u w' npD.symm] at hD; cases hD
  refine comp_range (fun i ys σ H2 => ∃ (ts : List Str) (v : Option V) (c2 : Int), σ = [some (.ref p), some (.ref l), none, v] ∧ ys = ts.map V.str ∧ ts.length = i ∧ (∀ s ∈ ts, s.length ≤ 1 ∧ AZ s) ∧ Left H2 p c2 ∧ c + 1 ≤ c2 ∧ c2 ≤ c + 1 + i ∧
      H2 D = some (.lst ys) ∧ But p H H2) ?_ ?_ ?_
  · refine ⟨[], none, c + 1, rfl, rfl, rfl, (fun s hs => by cases hs), ?_, by omega, by omega, upd_same, ?_⟩
    · obtain ⟨a, b, hp, q0⟩ := L1
      exact ⟨a, b, by rw [upd_ne npD]; exact hp, q0⟩
    · intro b o e n
      rw [upd_ne (ne_of_none e hDn)]
      exact B1 b o e n
  · rintro i ys σ H2 hi ⟨ts, v, c2, rfl, rfl, hn, hs, L2', b1, b2, hD2, B2⟩
    refine ⟨_, rfl, p, c2, _, rfl, L2', by omega, by decide, by decide, fun r' H3 r0' r1' L3 B3 => ?_⟩
    obtain ⟨ch, hcm, hch⟩ := at_code (z := "ababcz") r0' r1'
    have hD3 : H3 D = some (.lst (ts.map V.str)) := B3 D _ hD2 npD.symm
    refine ⟨_, _, _, rfl, rfl, (by decide +kernel), hch, hD3, (by rw [List.length_map, hn]; exact small1000 (by omega)), ts ++ [⟨#[ch]⟩], _, c2 + 1, rfl, ?_, ?_, ?_, ?_, by omega, by omega, upd_same, ?_⟩
    · rw [List.map_append]; rfl
    · rw [List.length_append, hn]; rfl
    · intro x hx
      rcases List.mem_append.mp hx with hx | hx
      · exact hs x hx
      · rw [List.mem_singleton.mp hx]; exact ⟨Nat.le_refl 1, az_six.one hcm⟩
    · obtain ⟨a, b, hp, q0⟩ := L3
      exact ⟨a, b, by rw [upd_ne npD]; exact hp, q0⟩
    · intro b o e n
      rw [upd_ne (ne_of_none e hDn)]
      exact B3 b o (B2 b o e n) n
  · rintro ys σ H2 ⟨ts, v, c2, rfl, rfl, hn, hs, L2', b1, b2, hD2, B2⟩
    have hsum := sum_ones ts fun s h => (hs s h).1
    have hjl := join_len "" ts
    have e0 : ("" : Str).length = 0 := by decide +kernel
    rw [e0] at hjl
    have hl2 := B2 l _ hl npl.symm
    refine ⟨_, D, ts, rfl, rfl, SqL.of hD2, (by rw [e0]; omega), ?_⟩
    have hlen : (((ss.map V.str).length : Nat) : Int) = (ss.length : Int) := by rw [List.length_map]
    refine ⟨_, rfl, _, rfl, _, rfl, l, _, rfl, .inl (SqL.of hl2), p, c2, _, rfl, L2', by omega, by omega, by omega, fun r' H3 r0' r1' L3 B3 => ?_⟩
    obtain ⟨st, hs1, hs2⟩ := at_str (ss := ss) r0' (by omega)
    have hst := (h24 st hs1).1
    refine ⟨l, _, _, _, rfl, rfl, SqL.of (B3 l _ hl2 npl.symm), hs2, _, rfl, _, _, rfl, rfl, small (by omega), ?_⟩
    refine q _ (c2 + 1) H3 ?_ ((h24 st hs1).2.app (AZ.joinT ts fun s h => (hs s h).2)) L3 (by omega) (by omega) (B2.trans B3)
    rw [PySem.Str.length_append]
    omega
theorem ok_alike_from (T : Tops K mg) : Df P w K mg base 1 "alike_from" ["one", "other", "far"] spAlikeFrom := by
  refine T.t_alike_from.df sc_alike_from (fun vs H Q E h => ?_) (fun cdv f A outer s H vs Q E hr h => ?_)
  · obtain ⟨x, y, far, rfl, _⟩ := h
    rfl
  obtain ⟨x, y, far, rfl, hx, hy, hf, q⟩ := h
  refine ⟨_, (@pss_cons _ _ _ _ _ (@ps_set _ _ 3 _ _ _ _ sc_alike_from.nd rfl (Or.inl rfl) (@pv _ 2 _ _ (by rfl) (Or.inl rfl) (by decide) (by decide)) (by rfl) (by first | exact .inl rfl | exact .inr rfl)) (@pss_cons _ _ _ _ _ (@ps_while _ _ _ _ _ _ PassesOwn.never (@PW.pt _ _ _ (@pw_and _ _ _ _ _ _ _ (@pt_cmpR _ _ _ _ _ _ _ _ op_lt (@pv _ 3 _ _ (by rfl) (Or.inl rfl) (by decide) (by decide)) (@pe_callB _ _ _ _ _ _ _ _ _ call_len_str (by rfl) T.b.n_len PySem.boot_len (@pa_cons _ _ _ _ _ (@pv _ 0 _ _ (by rfl) (Or.inl rfl) (by decide) (by decide)) (@pa_nil _) (by rfl)) (by decide) (by decide) (by rfl) (by rfl)) (nomark _)) (@pw_and _ _ _ _ _ _ _ (@pt_cmpR _ _ _ _ _ _ _ _ op_lt (@pv _ 3 _ _ (by rfl) (Or.inl rfl) (by decide) (by decide)) (@pe_callB _ _ _ _ _ _ _ _ _ call_len_str (by rfl) T.b.n_len PySem.boot_len (@pa_cons _ _ _ _ _ (@pv _ 1 _ _ (by rfl) (Or.inl rfl) (by decide) (by decide)) (@pa_nil _) (by rfl)) (by decide) (by decide) (by rfl) (by rfl)) (nomark _)) (@pw_and1 _ _ _ _ (@pt_cmpR _ _ _ _ _ _ _ _ op_eq (@pe_ix _ _ _ _ _ _ _ ix_str (@pv _ 0 _ _ (by rfl) (Or.inl rfl) (by decide) (by decide)) (@pv _ 3 _ _ (by rfl) (Or.inl rfl) (by decide) (by decide)) (fun _ _ => rfl)) (@pe_ix _ _ _ _ _ _ _ ix_str (@pv _ 1 _ _ (by rfl) (Or.inl rfl) (by decide) (by decide)) (@pv _ 3 _ _ (by rfl) (Or.inl rfl) (by decide) (by decide)) (fun _ _ => rfl)) (nomark _)))))) (@pss_one _ _ _ (@ps_aug _ _ 3 _ _ _ _ _ _ sc_alike_from.nd rfl (Or.inl rfl) (@pe_int _ _ _ _) ip_add (by first | exact .inl rfl | exact .inr rfl)))) (@pss_one _ _ _ (@ps_ret _ _ _ _ (@pv _ 3 _ _ (by rfl) (Or.inl rfl) (by decide) (by decide)))))), ?_⟩
  refine ⟨_, rfl, ?_⟩
  have lx : (cds x).length = x.length := by simp [Str.length]
  have ly : (cds y).length = y.length := by simp [Str.length]
  have ll := lcp_le (cds x) (cds y)
  refine ⟨fun m σ H2 => ∃ k : Nat, σ = [some (.str x), some (.str y), some (.int far), some (.int k)] ∧ H2 = H ∧ k ≤ lcp (cds x) (cds y) ∧ m = lcp (cds x) (cds y) - k, ⟨_, far, rfl, rfl, hf, rfl⟩, ?_⟩
  rintro m σ H2 ⟨k, rfl, rfl, hk, rfl⟩
  refine ⟨_, rfl, _, rfl, x, rfl, small hx, _, _, rfl, rfl, _, rfl, ?_⟩
  refine ite2 (fun d1 => ?_) (fun d1 => ?_)
  · have d1' : (k : Int) < (x.length : Int) := of_decide_eq_true d1
    refine ⟨_, rfl, _, rfl, y, rfl, small hy, _, _, rfl, rfl, _, rfl, ?_⟩
    refine ite2 (fun d2 => ?_) (fun d2 => ?_)
    · have d2' : (k : Int) < (y.length : Int) := of_decide_eq_true d2
      obtain ⟨a, ha, ha'⟩ := at_code (z := x) (k := k) (by omega) d1'
      obtain ⟨b, hb, hb'⟩ := at_code (z := y) (k := k) (by omega) d2'
      rw [Int.toNat_natCast] at ha hb
      refine ⟨_, rfl, _, rfl, x, _, a, rfl, rfl, small hx, ha', _, rfl, _, rfl, y, _, b, rfl, rfl, small hy, hb', rfl, _, rfl, ?_⟩
      refine ite2 (fun d3 => ?_) (fun d3 => ?_)
      · have d3' : a = b := by
          have := of_decide_eq_true d3
          injection this with e
          injection e with e
          simpa using e
        subst d3'
        have := lcp_on _ _ k hk a ha hb
        refine ⟨fun σ' H' => σ' = [some (.str x), some (.str y), some (.int far), some (.int ((k + 1 : Nat) : Int))] ∧ H' = H2, fun σ' H' ⟨e1, e2⟩ => ⟨_, ?_, k + 1, e1, e2, this, rfl⟩, ?_⟩
        · omega
        · exact ⟨_, rfl, _, _, rfl, rfl, rfl, rfl⟩
      · refine ⟨_, rfl, ?_⟩
        have e := lcp_end _ _ k hk (.inr (.inr ⟨a, b, ha, hb, fun e => d3 (by subst e; exact decide_eq_true rfl)⟩))
        rw [e] at q
        exact q
    · refine iteF ⟨_, rfl, ?_⟩
      have d2' : ¬ (k : Int) < (y.length : Int) := of_decide_eq_false (Bool.eq_false_iff.mpr d2)
      have e := lcp_end _ _ k hk (.inr (.inl (by omega)))
      rw [e] at q
      exact q
  · refine iteF ⟨_, rfl, ?_⟩
    have d1' : ¬ (k : Int) < (x.length : Int) := of_decide_eq_false (Bool.eq_false_iff.mpr d1)
    have e := lcp_end _ _ k hk (.inl (by omega))
    rw [e] at q
    exact q
theorem ok_alike (T : Tops K mg) (f_alike_from : Df P w K mg base 1 "alike_from" ["one", "other", "far"] spAlikeFrom) : Df P w K mg base 2 "alike" ["one", "other"] spAlike := by
  refine T.t_alike.df sc_alike (fun vs H Q E h => ?_) (fun cdv f A outer s H vs Q E hr h => ?_)
  · obtain ⟨x, y, rfl, _⟩ := h
    rfl
  obtain ⟨x, y, rfl, hx, hy, q⟩ := h
  refine ⟨_, (@pss_one _ _ _ (@ps_ret _ _ _ _ (@pe_df _ _ _ _ _ _ _ _ _ _ _ f_alike_from hr (@pa_cons _ _ _ _ _ (@pv _ 0 _ _ (by rfl) (Or.inl rfl) (by decide) (by decide)) (@pa_cons _ _ _ _ _ (@pv _ 1 _ _ (by rfl) (Or.inl rfl) (by decide) (by decide)) (@pa_cons _ _ _ _ _ (@pe_int _ _ _ _) (@pa_nil _) (by rfl)) (by rfl)) (by rfl)) (by first | decide | exact Nat.le_refl _ | omega) (by rfl) (by decide) (by rfl) (by rfl)))), ?_⟩
  exact ⟨_, rfl, _, rfl, x, y, 0, rfl, hx, hy, Nat.zero_le _, q⟩
theorem iteD {c A B : Prop} [Decidable c] (hc : c) (h : A) : if decide c = true then A else B := by
  rw [if_pos (decide_eq_true hc)]
  exact h
theorem iteDN {c A B : Prop} [Decidable c] (hc : ¬ c) (h : B) : if decide c = true then A else B := by
  rw [if_neg (by rw [decide_eq_false hc]; exact Bool.false_ne_true)]
  exact h
theorem Left.new {H : Hp} {p l : Addr} {c : Int} {o : HO} (h : Left H p c) (n : H l = none) : Left (upd H l o) p c := by
  obtain ⟨a, b, hp, c0⟩ := h
  exact ⟨a, b, by rw [upd_ne (ne_of_none hp n)]; exact hp, c0⟩
theorem Left.ge {H : Hp} {p : Addr} {c : Int} (h : Left H p c) : 0 ≤ c := by obtain ⟨a, b, hp, c0⟩ := h; exact c0
theorem Left.here {H : Hp} {p : Addr} {c : Int} (h : Left H p c) : ∃ o, H p = some o := by obtain ⟨a, b, hp, c0⟩ := h; exact ⟨_, hp⟩
theorem Left.at {H : Hp} {p l : Addr} {c : Int} {o : HO} (h : Left H p c) (n : p ≠ l) : Left (upd H l o) p c := by
  obtain ⟨a, b, hp, c0⟩ := h
  exact ⟨a, b, by rw [upd_ne n]; exact hp, c0⟩
theorem lay_strs : ∀ ss : List Str, (∀ s ∈ ss, AZ s) → PyData.canLayAll0 (ss.map PyData.str) = true
  | [], _ => rfl
  | x :: r, h => by simp [PyData.canLayAll0, PyData.canLay0, (h x (by simp)).ok, lay_strs r fun s hs => h s (List.mem_cons_of_mem _ hs)]
theorem depth_strs : ∀ ss : List Str, PyData.depthAll (ss.map PyData.str) = 0
  | [] => rfl
  | _ :: r => by simp [PyData.depthAll, PyData.depth, depth_strs r]
theorem shaped_strs (ss : List Str) (h : ∀ s ∈ ss, AZ s) : SeqAt.shaped (.list (ss.map PyData.str)) = true := by simp [SeqAt.shaped, PyData.canLay0, PyData.depth, lay_strs ss h, depth_strs]
theorem dv_strs {K : PySem.W.Frag} {H : Hp} : ∀ ss : List Str, DVs K H (ss.map V.str) (ss.map PyData.str)
  | [] => .nil
  | s :: r => .cons (.str s) (dv_strs r)
def ordC : List Nat → List Nat → Int
  | [], [] => 0
  | [], _ :: _ => -1
  | _ :: _, [] => 1
  | a :: r, b :: s => if a = b then ordC r s else if a < b then -1 else 1
theorem ordC_at : ∀ (x y : List Nat), (lcp x y = x.length → lcp x y = y.length → ordC x y = 0) ∧ (lcp x y = x.length → lcp x y ≠ y.length → ordC x y = -1) ∧ (lcp x y ≠ x.length → lcp x y = y.length → ordC x y = 1) ∧
    ∀ a b, x[lcp x y]? = some a → y[lcp x y]? = some b → ordC x y = if a < b then -1 else 1
  | [], [] => ⟨fun _ _ => rfl, fun _ h => absurd rfl h, fun h _ => absurd rfl h, fun a b h _ => by simp at h⟩
  | [], _ :: _ => ⟨fun _ h => by unfold lcp at h; simp at h, fun _ _ => rfl, fun h _ => absurd rfl h, fun a b h _ => by simp at h⟩
  | _ :: _, [] => ⟨fun h _ => by unfold lcp at h; simp at h, fun h _ => by unfold lcp at h; simp at h, fun _ _ => rfl, fun a b _ h => by simp at h⟩
  | a :: r, b :: s => by
    obtain ⟨h1, h2, h3, h4⟩ := ordC_at r s
    unfold lcp ordC
    by_cases e : a = b
    · rw [if_pos e, if_pos e]
      simp only [List.length_cons, List.getElem?_cons_succ]
      exact ⟨fun p q => h1 (by omega) (by omega), fun p q => h2 (by omega) (by omega), fun p q => h3 (by omega) (by omega), h4⟩
    · rw [if_neg e, if_neg e]
      simp only [List.length_cons, List.getElem?_cons_zero]
      refine ⟨fun p => by omega, fun p => by omega, fun _ p => by omega, fun c d p q => ?_⟩
      cases p; cases q
      rfl
theorem ordC_neg : ∀ (x y : List Nat), ordC y x = - ordC x y
  | [], [] => rfl
  | [], _ :: _ => rfl
  | _ :: _, [] => rfl
  | a :: r, b :: s => by
    have ih := ordC_neg r s
    unfold ordC
    by_cases e : a = b
    · rw [if_pos e, if_pos e.symm, ih]
    · rw [if_neg e, if_neg fun z => e z.symm]
      by_cases l : a < b
      · rw [if_pos l, if_neg (by omega)]; rfl
      · rw [if_neg l, if_pos (by omega)]
theorem one_lt (a b : Nat) : decide ((⟨#[a]⟩ : Str).cps.toList < (⟨#[b]⟩ : Str).cps.toList) = decide (a < b) := by
  have e : ([a] : List Nat) < [b] ↔ a < b := by
    constructor
    · intro h
      cases h with
      | rel h => exact h
      | cons h => cases h
    · exact fun h => List.Lex.rel h
  exact decide_eq_decide.mpr e
theorem ordC_self : ∀ x : List Nat, ordC x x = 0
  | [] => rfl
  | a :: r => by unfold ordC; rw [if_pos rfl]; exact ordC_self r
theorem ordC_trans : ∀ (x y z : List Nat), ordC x y ≤ 0 → ordC y z ≤ 0 → ordC x z ≤ 0
  | [], _, [], _, _ => by unfold ordC; omega
  | [], _, _ :: _, _, _ => by unfold ordC; omega
  | _ :: _, [], _, h, _ => by unfold ordC at h; omega
  | _ :: _, _ :: _, [], _, h => by unfold ordC at h; omega
  | a :: r, b :: s, c :: t, h1, h2 => by
    unfold ordC at h1 h2 ⊢
    have ih := ordC_trans r s t
    by_cases e1 : a = b
    · rw [if_pos e1] at h1
      by_cases e2 : b = c
      · rw [if_pos e2] at h2
        rw [if_pos (e1.trans e2)]
        exact ih h1 h2
      · rw [if_neg e2] at h2
        rw [if_neg (fun e => e2 (e1.symm.trans e))]
        split at h2
        · rw [if_pos (by omega)]; omega
        · omega
    · rw [if_neg e1] at h1
      split at h1
      · by_cases e2 : b = c
        · rw [if_neg (fun e => e1 (e.trans e2.symm)), if_pos (by omega)]; omega
        · rw [if_neg e2] at h2
          split at h2
          · rw [if_neg (by omega), if_pos (by omega)]; omega
          · omega
      · omega
theorem len_cds (z : Str) : (cds z).length = z.length := by simp [Str.length]
def spLiken : Sp := fun vs H Q _ => ∃ x y : Str, vs = [.str x, .str y] ∧ x.length ≤ 1000 ∧ y.length ≤ 1000 ∧ Q (.int (ordC (cds x) (cds y))) H
def spOrder : Sp := fun vs H Q _ => ∃ x y : Str, vs = [.str x, .str y, .int (lcp (cds x) (cds y) : Nat)] ∧ x.length ≤ 1000 ∧ y.length ≤ 1000 ∧ Q (.int (ordC (cds x) (cds y))) H
theorem ok_order (T : Tops K mg) : Df P w K mg base 1 "order_at" ["one", "other", "at"] spOrder := by
  refine T.t_order_at.df sc_order_at (fun vs H Q E h => ?_) (fun cdv f A outer s H vs Q E hr h => ?_)
  · obtain ⟨x, y, rfl, _⟩ := h
    rfl
  obtain ⟨x, y, rfl, hx, hy, q⟩ := h
  refine ⟨_, (@pss_cons _ _ _ _ _ (@ps_if _ _ _ _ _ _ _ _ (@PW.pt _ _ _ (@pw_and _ _ _ _ _ _ _ (@pt_cmpR _ _ _ _ _ _ _ _ op_eq (@pv _ 2 _ _ (by rfl) (Or.inl rfl) (by decide) (by decide)) (@pe_callB _ _ _ _ _ _ _ _ _ call_len_str (by rfl) T.b.n_len PySem.boot_len (@pa_cons _ _ _ _ _ (@pv _ 0 _ _ (by rfl) (Or.inl rfl) (by decide) (by decide)) (@pa_nil _) (by rfl)) (by decide) (by decide) (by rfl) (by rfl)) (nomark _)) (@pw_and1 _ _ _ _ (@pt_cmpR _ _ _ _ _ _ _ _ op_eq (@pv _ 2 _ _ (by rfl) (Or.inl rfl) (by decide) (by decide)) (@pe_callB _ _ _ _ _ _ _ _ _ call_len_str (by rfl) T.b.n_len PySem.boot_len (@pa_cons _ _ _ _ _ (@pv _ 1 _ _ (by rfl) (Or.inl rfl) (by decide) (by decide)) (@pa_nil _) (by rfl)) (by decide) (by decide) (by rfl) (by rfl)) (nomark _))))) (@pss_one _ _ _ (@ps_ret _ _ _ _ (@pe_int _ _ _ _))) (@pss_nil _)) (@pss_cons _ _ _ _ _ (@ps_if _ _ _ _ _ _ _ _ (@pt_cmpR _ _ _ _ _ _ _ _ op_eq (@pv _ 2 _ _ (by rfl) (Or.inl rfl) (by decide) (by decide)) (@pe_callB _ _ _ _ _ _ _ _ _ call_len_str (by rfl) T.b.n_len PySem.boot_len (@pa_cons _ _ _ _ _ (@pv _ 0 _ _ (by rfl) (Or.inl rfl) (by decide) (by decide)) (@pa_nil _) (by rfl)) (by decide) (by decide) (by rfl) (by rfl)) (nomark _)) (@pss_one _ _ _ (@ps_ret _ _ _ _ (@pe_un _ _ _ _ _ _ un_neg (@pe_int _ _ _ _)))) (@pss_nil _)) (@pss_cons _ _ _ _ _ (@ps_if _ _ _ _ _ _ _ _ (@pt_cmpR _ _ _ _ _ _ _ _ op_eq (@pv _ 2 _ _ (by rfl) (Or.inl rfl) (by decide) (by decide)) (@pe_callB _ _ _ _ _ _ _ _ _ call_len_str (by rfl) T.b.n_len PySem.boot_len (@pa_cons _ _ _ _ _ (@pv _ 1 _ _ (by rfl) (Or.inl rfl) (by decide) (by decide)) (@pa_nil _) (by rfl)) (by decide) (by decide) (by rfl) (by rfl)) (nomark _)) (@pss_one _ _ _ (@ps_ret _ _ _ _ (@pe_int _ _ _ _))) (@pss_nil _)) (@pss_one _ _ _ (@ps_ret _ _ _ _ (@pe_ifExp _ _ _ _ _ _ _ _ (@pt_cmpR _ _ _ _ _ _ _ _ op_lt_str (@pe_ix _ _ _ _ _ _ _ ix_str (@pv _ 0 _ _ (by rfl) (Or.inl rfl) (by decide) (by decide)) (@pv _ 2 _ _ (by rfl) (Or.inl rfl) (by decide) (by decide)) (fun _ _ => rfl)) (@pe_ix _ _ _ _ _ _ _ ix_str (@pv _ 1 _ _ (by rfl) (Or.inl rfl) (by decide) (by decide)) (@pv _ 2 _ _ (by rfl) (Or.inl rfl) (by decide) (by decide)) (fun _ _ => rfl)) (nomark _)) (@pe_un _ _ _ _ _ _ un_neg (@pe_int _ _ _ _)) (@pe_int _ _ _ _))))))), ?_⟩
  obtain ⟨o1, o2, o3, o4⟩ := ordC_at (cds x) (cds y)
  have ll := lcp_le (cds x) (cds y)
  have lx := len_cds x
  have ly := len_cds y
  have inj : ∀ {m n : Nat}, V.int (m : Int) = V.int (n : Int) → m = n := fun {m n} e => by injection e with e; omega
  refine ⟨_, rfl, _, rfl, x, rfl, small hx, rfl, _, rfl, ite2 (fun d => ?_) (fun d => ?_)⟩
  · have d1 := inj (of_decide_eq_true d)
    refine ⟨_, rfl, _, rfl, y, rfl, small hy, rfl, _, rfl, ite2 (fun d2 => ?_) (fun d2 => ?_)⟩
    · have d2' := inj (of_decide_eq_true d2)
      rw [o1 (by omega) (by omega)] at q
      exact q
    · have d2' : ¬ lcp (cds x) (cds y) = y.length := fun e => d2 (by rw [e]; exact decide_eq_true rfl)
      refine ⟨_, rfl, _, rfl, x, rfl, small hx, rfl, _, rfl, iteD (by rw [d1]) ?_⟩
      rw [o2 (by omega) (by omega)] at q
      exact ⟨_, rfl, q⟩
  · have d1 : ¬ lcp (cds x) (cds y) = x.length := fun e => d (by rw [e]; exact decide_eq_true rfl)
    refine iteF ⟨_, rfl, _, rfl, x, rfl, small hx, rfl, _, rfl, iteDN (fun e => d1 (inj e)) ?_⟩
    refine ⟨_, rfl, _, rfl, y, rfl, small hy, rfl, _, rfl, ite2 (fun d2 => ?_) (fun d2 => ?_)⟩
    · have d2' := inj (of_decide_eq_true d2)
      rw [o3 (by omega) (by omega)] at q
      exact q
    · have d2' : ¬ lcp (cds x) (cds y) = y.length := fun e => d2 (by rw [e]; exact decide_eq_true rfl)
      obtain ⟨a, ha, ha'⟩ := at_code (z := x) (k := (lcp (cds x) (cds y) : Nat)) (by omega) (by omega)
      obtain ⟨b, hb, hb'⟩ := at_code (z := y) (k := (lcp (cds x) (cds y) : Nat)) (by omega) (by omega)
      rw [Int.toNat_natCast] at ha hb
      refine ⟨_, rfl, _, rfl, x, _, a, rfl, rfl, small hx, ha', _, rfl, _, rfl, y, _, b, rfl, rfl, small hy, hb', _, _, rfl, rfl, _, rfl, ?_⟩
      rw [one_lt]
      rw [o4 a b ha hb] at q
      refine ite2 (fun e => ?_) (fun e => ?_)
      · rw [if_pos (of_decide_eq_true e)] at q
        exact ⟨_, rfl, q⟩
      · rw [if_neg (fun z => e (decide_eq_true z))] at q
        exact q
theorem ok_liken (T : Tops K mg) (f_alike : Df P w K mg base 2 "alike" ["one", "other"] spAlike) (f_order_at : Df P w K mg base 1 "order_at" ["one", "other", "at"] spOrder) : Df P w K mg base 3 "liken" ["one", "other"] spLiken := by
  refine T.t_liken.df sc_liken (fun vs H Q E h => ?_) (fun cdv f A outer s H vs Q E hr h => ?_)
  · obtain ⟨x, y, rfl, _⟩ := h
    rfl
  obtain ⟨x, y, rfl, hx, hy, q⟩ := h
  refine ⟨_, (@pss_one _ _ _ (@ps_ret _ _ _ _ (@pe_df _ _ _ _ _ _ _ _ _ _ _ f_order_at hr (@pa_cons _ _ _ _ _ (@pv _ 0 _ _ (by rfl) (Or.inl rfl) (by decide) (by decide)) (@pa_cons _ _ _ _ _ (@pv _ 1 _ _ (by rfl) (Or.inl rfl) (by decide) (by decide)) (@pa_cons _ _ _ _ _ (@pe_df _ _ _ _ _ _ _ _ _ _ _ f_alike hr (@pa_cons _ _ _ _ _ (@pv _ 0 _ _ (by rfl) (Or.inl rfl) (by decide) (by decide)) (@pa_cons _ _ _ _ _ (@pv _ 1 _ _ (by rfl) (Or.inl rfl) (by decide) (by decide)) (@pa_nil _) (by rfl)) (by rfl)) (by first | decide | exact Nat.le_refl _ | omega) (by rfl) (by decide) (by rfl) (by rfl)) (@pa_nil _) (by rfl)) (by rfl)) (by rfl)) (by first | decide | exact Nat.le_refl _ | omega) (by rfl) (by decide) (by rfl) (by rfl)))), ?_⟩
  exact ⟨_, rfl, _, rfl, _, rfl, _, rfl, x, y, rfl, hx, hy, x, y, rfl, hx, hy, q⟩
theorem Left.same {H H' : Hp} {p : Addr} {c : Int} (h : Left H p c) (s : Same H H') : Left H' p c := by obtain ⟨b1, b2, hb, c0⟩ := h; exact ⟨b1, b2, s _ _ hb, c0⟩

theorem free_of {p : Addr} {H H1 : Hp} {l : Addr} (B : But p H H1) (n : p ≠ l) (h : H1 l = none) : H l = none := by
  cases w' : H l with
  | none => rfl
  | some u => rw [B l u w' n.symm] at h; cases h
def Rd (H : Hp) : List Addr → List (List Int) → Prop
  | [], [] => True
  | l :: ls, d :: ds => H l = some (.lst (d.map V.int)) ∧ Rd H ls ds
  | _, _ => False
theorem Rd.len {H : Hp} : ∀ {ls : List Addr} {ds : List (List Int)}, Rd H ls ds → ls.length = ds.length
  | [], [], _ => rfl
  | [], _ :: _, h => h.elim
  | _ :: _, [], h => h.elim
  | _ :: ls, _ :: ds, h => by rw [List.length_cons, List.length_cons, Rd.len h.2]
theorem Rd.mono {H H' : Hp} : ∀ {ls : List Addr} {ds : List (List Int)}, (∀ l ∈ ls, ∀ o, H l = some o → H' l = some o) → Rd H ls ds → Rd H' ls ds
  | [], [], _, _ => trivial
  | [], _ :: _, _, h => h.elim
  | _ :: _, [], _, h => h.elim
  | l :: ls, _ :: ds, k, h => ⟨k l (by simp) _ h.1, Rd.mono (fun x hx => k x (List.mem_cons_of_mem _ hx)) h.2⟩
theorem Rd.app {H : Hp} : ∀ {ls : List Addr} {ds : List (List Int)} {ms : List Addr} {es : List (List Int)}, Rd H ls ds → Rd H ms es → Rd H (ls ++ ms) (ds ++ es)
  | [], [], _, _, _, h => h
  | [], _ :: _, _, _, h, _ => h.elim
  | _ :: _, [], _, _, h, _ => h.elim
  | _ :: ls, _ :: ds, _, _, h, g => ⟨h.1, Rd.app h.2 g⟩
theorem Rd.at {H : Hp} : ∀ {ls : List Addr} {ds : List (List Int)} {i : Nat} {l : Addr}, Rd H ls ds → ls[i]? = some l → ∃ d, ds[i]? = some d ∧ H l = some (.lst (d.map V.int))
  | [], _, i, l, _, h => by simp at h
  | _ :: _, [], _, _, h, _ => h.elim
  | l :: ls, d :: ds, 0, x, h, e => ⟨d, rfl, by simp at e; subst e; exact h.1⟩
  | l :: ls, d :: ds, i + 1, x, h, e => by simpa using Rd.at (i := i) h.2 (by simpa using e)
theorem at_intM {ns : List Int} {k : Int} (h0 : 0 ≤ k) (h : k < (ns.length : Int)) : ∃ v ∈ ns, atI (ns.map V.int) k = some (.int v) := by
  have hk : k.toNat < ns.length := by omega
  have ek : k = ((k.toNat : Nat) : Int) := by omega
  have q : atI (ns.map V.int) ((k.toNat : Nat) : Int) = some (.int ns[k.toNat]) := atI_nat (by rw [List.getElem?_map, List.getElem?_eq_getElem hk] <;> rfl)
  rw [← ek] at q
  exact ⟨_, List.getElem_mem hk, q⟩
theorem lay_ints : ∀ ns : List Int, PyData.canLayAll0 (ns.map PyData.int) = true
  | [] => rfl
  | x :: r => by simp [PyData.canLayAll0, PyData.canLay0, lay_ints r]
theorem depth_ints : ∀ ns : List Int, PyData.depthAll (ns.map PyData.int) = 0
  | [] => rfl
  | _ :: r => by simp [PyData.depthAll, PyData.depth, depth_ints r]
theorem shaped_ints (ns : List Int) : SeqAt.shaped (.list (ns.map PyData.int)) = true := by simp [SeqAt.shaped, PyData.canLay0, PyData.depth, lay_ints ns, depth_ints]
theorem lt_ord : ∀ x y : List Nat, x < y ↔ ordC x y < 0
  | [], [] => by unfold ordC; exact ⟨fun h => absurd h (by simp), fun h => absurd h (by omega)⟩
  | [], _ :: _ => by unfold ordC; exact ⟨fun _ => by omega, fun _ => List.nil_lt_cons _ _⟩
  | _ :: _, [] => by unfold ordC; exact ⟨fun h => absurd h (List.not_lt_nil _), fun h => absurd h (by omega)⟩
  | a :: r, b :: s => by
    have ih := lt_ord r s
    unfold ordC
    rw [List.cons_lt_cons_iff]
    by_cases e : a = b
    · rw [if_pos e, ← ih]
      exact ⟨fun h => h.elim (fun z => by omega) (fun z => z.2), fun h => .inr ⟨e, h⟩⟩
    · rw [if_neg e]
      by_cases l : a < b
      · rw [if_pos l]; exact ⟨fun _ => by omega, fun _ => .inl l⟩
      · rw [if_neg l]; exact ⟨fun h => h.elim (fun z => absurd z l) (fun z => absurd z.1 e), fun h => absurd h (by omega)⟩
def brkAt (ss : List Str) (i : Nat) : Bool := decide (0 < ordC (cds (ss.getD (i - 1) "")) (cds (ss.getD i "")))
theorem cut_half (ss : List Str) (m : Nat) (h : m ≤ ss.length) : cutV (ss.map V.str) none (some (m : Int)) = (ss.take m).map V.str ∧ cutV (ss.map V.str) (some (m : Int)) none = (ss.drop m).map V.str := by
  have e : ∀ d : Nat, HT.sIx (ss.map V.str).length d (some (m : Int)) = m := fun d => by
    unfold HT.sIx
    simp only [List.length_map]
    rw [if_neg (by omega)]
    omega
  have e0 : ∀ d : Nat, HT.sIx (ss.map V.str).length d none = d := fun d => rfl
  constructor
  · unfold cutV
    rw [e, e0, List.drop_zero, Nat.sub_zero, List.map_take]
  · unfold cutV
    rw [e, e0, ← List.map_drop, ← List.map_take, List.take_of_length_le (by rw [List.length_drop, List.length_map]; omega)]
def spThings : Sp := fun vs H Q _ => ∃ (p : Addr) (c : Int), vs = [.ref p] ∧ Left H p c ∧ c < 2 ^ 30 ∧
  ∀ (r : Addr) (ts : List Str) (c' : Int) (H' : Hp), H r = none → H' r = some (.lst (ts.map V.str)) → ts.length ≤ 60 → (∀ s ∈ ts, s.length ≤ 28 ∧ AZ s) → Left H' p c' → c ≤ c' → c' ≤ c + 700 → But p H H' → Q (.ref r) H'
theorem ok_things (T : Tops K mg) (f_l_pick : Df P w K mg base 2 "_law_pick" ["_law_left_here", "_law_many"] spPick) (f_l_stems : Df P w K mg base 3 "_law_stems" ["_law_left_here"] spStems) (f_l_key : Df P w K mg base 3 "_law_key" ["_law_left_here", "_law_stems_here"] spKey) : Df P w K mg base 4 "_law_things" ["_law_left_here"] spThings := by
  refine T.t_l_things.df sc_l_things (fun vs H Q E h => ?_) (fun cdv f A outer s H vs Q E hr h => ?_)
  · obtain ⟨p, c, rfl, _⟩ := h
    rfl
  obtain ⟨p, c, rfl, hL, c1, q⟩ := h
  refine ⟨_, (@pss_cons _ _ _ _ _ (@ps_set _ _ 1 _ _ _ _ sc_l_things.nd rfl (Or.inl rfl) (@pe_df _ _ _ _ _ _ _ _ _ _ _ f_l_stems hr (@pa_cons _ _ _ _ _ (@pv _ 0 _ _ (by rfl) (Or.inl rfl) (by decide) (by decide)) (@pa_nil _) (by rfl)) (by first | decide | exact Nat.le_refl _ | omega) (by rfl) (by decide) (by rfl) (by rfl)) (by rfl) (by first | exact .inl rfl | exact .inr rfl)) (@pss_cons _ _ _ _ _ (@ps_set _ _ 2 _ _ _ _ sc_l_things.nd rfl (Or.inl rfl) (@pe_lst _ _ _ _ (@pa_cons _ _ _ _ _ (@pe_df _ _ _ _ _ _ _ _ _ _ _ f_l_pick hr (@pa_cons _ _ _ _ _ (@pv _ 0 _ _ (by rfl) (Or.inl rfl) (by decide) (by decide)) (@pa_cons _ _ _ _ _ (@pe_int _ _ _ _) (@pa_nil _) (by rfl)) (by rfl)) (by first | decide | exact Nat.le_refl _ | omega) (by rfl) (by decide) (by rfl) (by rfl)) (@pa_cons _ _ _ _ _ (@pe_int _ _ _ _) (@pa_cons _ _ _ _ _ (@pe_int _ _ _ _) (@pa_cons _ _ _ _ _ (@pe_int _ _ _ _) (@pa_cons _ _ _ _ _ (@pe_int _ _ _ _) (@pa_cons _ _ _ _ _ (@pe_op _ _ _ _ _ _ _ _ op_add (@pe_int _ _ _ _) (@pe_df _ _ _ _ _ _ _ _ _ _ _ f_l_pick hr (@pa_cons _ _ _ _ _ (@pv _ 0 _ _ (by rfl) (Or.inl rfl) (by decide) (by decide)) (@pa_cons _ _ _ _ _ (@pe_int _ _ _ _) (@pa_nil _) (by rfl)) (by rfl)) (by first | decide | exact Nat.le_refl _ | omega) (by rfl) (by decide) (by rfl) (by rfl))) (@pa_cons _ _ _ _ _ (@pe_op _ _ _ _ _ _ _ _ op_add (@pe_int _ _ _ _) (@pe_df _ _ _ _ _ _ _ _ _ _ _ f_l_pick hr (@pa_cons _ _ _ _ _ (@pv _ 0 _ _ (by rfl) (Or.inl rfl) (by decide) (by decide)) (@pa_cons _ _ _ _ _ (@pe_int _ _ _ _) (@pa_nil _) (by rfl)) (by rfl)) (by first | decide | exact Nat.le_refl _ | omega) (by rfl) (by decide) (by rfl) (by rfl))) (@pa_cons _ _ _ _ _ (@pe_op _ _ _ _ _ _ _ _ op_add (@pe_int _ _ _ _) (@pe_df _ _ _ _ _ _ _ _ _ _ _ f_l_pick hr (@pa_cons _ _ _ _ _ (@pv _ 0 _ _ (by rfl) (Or.inl rfl) (by decide) (by decide)) (@pa_cons _ _ _ _ _ (@pe_int _ _ _ _) (@pa_nil _) (by rfl)) (by rfl)) (by first | decide | exact Nat.le_refl _ | omega) (by rfl) (by decide) (by rfl) (by rfl))) (@pa_nil _) (by rfl)) (by rfl)) (by rfl)) (by rfl)) (by rfl)) (by rfl)) (by rfl)) (by rfl))) (by rfl) (by first | exact .inl rfl | exact .inr rfl)) (@pss_cons _ _ _ _ _ (@ps_set _ _ 3 _ _ _ _ sc_l_things.nd rfl (Or.inl rfl) (@pe_lst _ _ _ _ (@pa_nil _)) (by rfl) (by first | exact .inl rfl | exact .inr rfl)) (@pss_cons _ _ _ _ _ (@ps_for _ _ _ _ _ _ _ _ PassesOwn.never rfl (@pi_range1 _ _ _ _ _ _ rfl T.b.n_range (@pa_cons _ _ _ _ _ (@pe_ix _ _ _ _ _ _ _ (ixL K) (@pv _ 2 _ _ (by rfl) (Or.inl rfl) (by decide) (by decide)) (@pe_df _ _ _ _ _ _ _ _ _ _ _ f_l_pick hr (@pa_cons _ _ _ _ _ (@pv _ 0 _ _ (by rfl) (Or.inl rfl) (by decide) (by decide)) (@pa_cons _ _ _ _ _ (@pe_int _ _ _ _) (@pa_nil _) (by rfl)) (by rfl)) (by first | decide | exact Nat.le_refl _ | omega) (by rfl) (by decide) (by rfl) (by rfl)) (fun _ _ => rfl)) (@pa_nil _) (by rfl)) (by rfl)) (@pg_name _ _ 4 _ sc_l_things.nd rfl (Or.inl rfl) (by first | exact .inl rfl | exact .inr rfl)) (@pss_cons _ _ _ _ _ (@ps_set _ _ 5 _ _ _ _ sc_l_things.nd rfl (Or.inl rfl) (@pe_df _ _ _ _ _ _ _ _ _ _ _ f_l_key hr (@pa_cons _ _ _ _ _ (@pv _ 0 _ _ (by rfl) (Or.inl rfl) (by decide) (by decide)) (@pa_cons _ _ _ _ _ (@pv _ 1 _ _ (by rfl) (Or.inl rfl) (by decide) (by decide)) (@pa_nil _) (by rfl)) (by rfl)) (by first | decide | exact Nat.le_refl _ | omega) (by rfl) (by decide) (by rfl) (by rfl)) (by rfl) (by first | exact .inl rfl | exact .inr rfl)) (@pss_cons _ _ _ _ _ (@ps_if _ _ _ _ _ _ _ _ (@PW.pt _ _ _ (@pw_and _ _ _ _ _ _ _ (@pt_cmpR _ _ _ _ _ _ _ _ (@neD _ K _ hr (by rfl)) (@pv _ 3 _ _ (by rfl) (Or.inl rfl) (by decide) (by decide)) (@pe_lst _ _ _ _ (@pa_nil _)) (nomark _)) (@pw_and1 _ _ _ _ (@pt_cmpR _ _ _ _ _ _ _ _ op_eq (@pe_df _ _ _ _ _ _ _ _ _ _ _ f_l_pick hr (@pa_cons _ _ _ _ _ (@pv _ 0 _ _ (by rfl) (Or.inl rfl) (by decide) (by decide)) (@pa_cons _ _ _ _ _ (@pe_int _ _ _ _) (@pa_nil _) (by rfl)) (by rfl)) (by first | decide | exact Nat.le_refl _ | omega) (by rfl) (by decide) (by rfl) (by rfl)) (@pe_int _ _ _ _) (nomark _))))) (@pss_one _ _ _ (@ps_set _ _ 5 _ _ _ _ sc_l_things.nd rfl (Or.inl rfl) (@pe_ix _ _ _ _ _ _ _ (ixL K) (@pv _ 3 _ _ (by rfl) (Or.inl rfl) (by decide) (by decide)) (@pe_df _ _ _ _ _ _ _ _ _ _ _ f_l_pick hr (@pa_cons _ _ _ _ _ (@pv _ 0 _ _ (by rfl) (Or.inl rfl) (by decide) (by decide)) (@pa_cons _ _ _ _ _ (@pe_callB _ _ _ _ _ _ _ _ _ (lenQ K) (by rfl) T.b.n_len PySem.boot_len (@pa_cons _ _ _ _ _ (@pv _ 3 _ _ (by rfl) (Or.inl rfl) (by decide) (by decide)) (@pa_nil _) (by rfl)) (by decide) (by decide) (by rfl) (by rfl)) (@pa_nil _) (by rfl)) (by rfl)) (by first | decide | exact Nat.le_refl _ | omega) (by rfl) (by decide) (by rfl) (by rfl)) (fun _ _ => rfl)) (by rfl) (by first | exact .inl rfl | exact .inr rfl))) (@pss_nil _)) (@pss_one _ _ _ (@ps_expr _ _ _ _ (@pe_bm _ _ _ _ _ _ _ _ _ _ _ _ PySem.F.plainAttrs_list PySem.F.slot_list_append PySem.F.type_list_append mt_append (@pv _ 3 _ _ (by rfl) (Or.inl rfl) (by decide) (by decide)) (@pa_cons _ _ _ _ _ (@pv _ 5 _ _ (by rfl) (Or.inl rfl) (by decide) (by decide)) (@pa_nil _) (by rfl)) (by rfl) (by rfl) (by rfl) (by rfl) (by rfl)) (by rfl))))) (by intro _; rfl)) (@pss_cons _ _ _ _ _ (@ps_set _ _ 6 _ _ _ _ sc_l_things.nd rfl (Or.inl rfl) (@pe_df _ _ _ _ _ _ _ _ _ _ _ f_l_pick hr (@pa_cons _ _ _ _ _ (@pv _ 0 _ _ (by rfl) (Or.inl rfl) (by decide) (by decide)) (@pa_cons _ _ _ _ _ (@pe_int _ _ _ _) (@pa_nil _) (by rfl)) (by rfl)) (by first | decide | exact Nat.le_refl _ | omega) (by rfl) (by decide) (by rfl) (by rfl)) (by rfl) (by first | exact .inl rfl | exact .inr rfl)) (@pss_cons _ _ _ _ _ (@ps_set _ _ 7 _ _ _ _ sc_l_things.nd rfl (Or.inl rfl) (@pe_op _ _ _ _ _ _ _ _ op_fdiv (@pe_callB _ _ _ _ _ _ _ _ _ (lenQ K) (by rfl) T.b.n_len PySem.boot_len (@pa_cons _ _ _ _ _ (@pv _ 3 _ _ (by rfl) (Or.inl rfl) (by decide) (by decide)) (@pa_nil _) (by rfl)) (by decide) (by decide) (by rfl) (by rfl)) (@pe_int _ _ _ _)) (by rfl) (by first | exact .inl rfl | exact .inr rfl)) (@pss_cons _ _ _ _ _ (@ps_if _ _ _ _ _ _ _ _ (@pt_cmpR _ _ _ _ _ _ _ _ op_eq (@pv _ 6 _ _ (by rfl) (Or.inl rfl) (by decide) (by decide)) (@pe_int _ _ _ _) (nomark _)) (@pss_one _ _ _ (@ps_ret _ _ _ _ (@pe_callB _ _ _ _ _ _ _ _ _ (srtS K) (by rfl) T.b.n_sorted boot_sorted (@pa_cons _ _ _ _ _ (@pv _ 3 _ _ (by rfl) (Or.inl rfl) (by decide) (by decide)) (@pa_nil _) (by rfl)) (by decide) (by decide) (by rfl) (by rfl)))) (@pss_nil _)) (@pss_cons _ _ _ _ _ (@ps_if _ _ _ _ _ _ _ _ (@pt_cmpR _ _ _ _ _ _ _ _ op_eq (@pv _ 6 _ _ (by rfl) (Or.inl rfl) (by decide) (by decide)) (@pe_int _ _ _ _) (nomark _)) (@pss_one _ _ _ (@ps_ret _ _ _ _ (@pe_sliceS _ _ _ _ _ _ _ _ _ _ _ _ (slLS K) (@pe_callB _ _ _ _ _ _ _ _ _ (srtS K) (by rfl) T.b.n_sorted boot_sorted (@pa_cons _ _ _ _ _ (@pv _ 3 _ _ (by rfl) (Or.inl rfl) (by decide) (by decide)) (@pa_nil _) (by rfl)) (by decide) (by decide) (by rfl) (by rfl)) (@po_none _) (@po_none _) (@po_some _ _ _ (@pe_un _ _ _ _ _ _ un_neg (@pe_int _ _ _ _)))))) (@pss_nil _)) (@pss_cons _ _ _ _ _ (@ps_if _ _ _ _ _ _ _ _ (@pt_cmpR _ _ _ _ _ _ _ _ op_eq (@pv _ 6 _ _ (by rfl) (Or.inl rfl) (by decide) (by decide)) (@pe_int _ _ _ _) (nomark _)) (@pss_one _ _ _ (@ps_ret _ _ _ _ (@pe_op _ _ _ _ _ _ _ _ op_cat (@pe_callB _ _ _ _ _ _ _ _ _ (srtS K) (by rfl) T.b.n_sorted boot_sorted (@pa_cons _ _ _ _ _ (@pe_slice _ _ _ _ _ _ _ _ _ _ (slL K) (@pv _ 3 _ _ (by rfl) (Or.inl rfl) (by decide) (by decide)) (@po_none _) (@po_some _ _ _ (@pv _ 7 _ _ (by rfl) (Or.inl rfl) (by decide) (by decide)))) (@pa_nil _) (by rfl)) (by decide) (by decide) (by rfl) (by rfl)) (@pe_callB _ _ _ _ _ _ _ _ _ (srtS K) (by rfl) T.b.n_sorted boot_sorted (@pa_cons _ _ _ _ _ (@pe_slice _ _ _ _ _ _ _ _ _ _ (slL K) (@pv _ 3 _ _ (by rfl) (Or.inl rfl) (by decide) (by decide)) (@po_some _ _ _ (@pv _ 7 _ _ (by rfl) (Or.inl rfl) (by decide) (by decide))) (@po_none _)) (@pa_nil _) (by rfl)) (by decide) (by decide) (by rfl) (by rfl))))) (@pss_nil _)) (@pss_one _ _ _ (@ps_ret _ _ _ _ (@pv _ 3 _ _ (by rfl) (Or.inl rfl) (by decide) (by decide))))))))))))), ?_⟩
  have c0 := hL.ge
  refine ⟨_, rfl, p, c, rfl, hL, by omega, fun l ss c5 H5 hl0 hl5 n1 n4 h24 L5 a1 a2 B5 => ?_⟩
  have npl : p ≠ l := by
    obtain ⟨o, ho⟩ := hL.here
    exact ne_of_none ho hl0
  refine ⟨_, rfl, p, c5, _, rfl, L5, by omega, by decide, by decide, fun d1 H6 d10 d11 L6 B6 => ?_⟩
  refine ⟨_, rfl, p, c5 + 1, _, rfl, L6, by omega, by decide, by decide, fun d2 H7 d20 d21 L7 B7 => ⟨_, _, rfl, rfl, ?_⟩⟩
  refine ⟨_, rfl, p, c5 + 1 + 1, _, rfl, L7, by omega, by decide, by decide, fun d3 H8 d30 d31 L8 B8 => ⟨_, _, rfl, rfl, ?_⟩⟩
  refine ⟨_, rfl, p, c5 + 1 + 1 + 1, _, rfl, L8, by omega, by decide, by decide, fun d4 H9 d40 d41 L9 B9 => ⟨_, _, rfl, rfl, ?_⟩⟩
  refine ⟨(by show 8 ≤ sizeLine; decide), fun m hm => ?_⟩
  have npm : p ≠ m := by obtain ⟨o, ho⟩ := L9.here; exact ne_of_none ho hm
  have B59 : But p H5 H9 := ((B6.trans B7).trans B8).trans B9
  have hl9 := B59 l _ hl5 npl.symm
  have nlm : l ≠ m := ne_of_none hl9 hm
  refine ⟨(by show 0 ≤ sizeLine; decide), fun r hr0 => ?_⟩
  have L10 : Left (upd H9 m (.lst (([d1, 4, 5, 6, 8, 3 + d2, 7 + d3, 20 + d4] : List Int).map V.int))) p (c5 + 1 + 1 + 1 + 1) := L9.new hm
  have hm10 : (upd H9 m (.lst (([d1, 4, 5, 6, 8, 3 + d2, 7 + d3, 20 + d4] : List Int).map V.int))) m = some (.lst (([d1, 4, 5, 6, 8, 3 + d2, 7 + d3, 20 + d4] : List Int).map V.int)) := upd_same
  have hl10 : (upd H9 m (.lst (([d1, 4, 5, 6, 8, 3 + d2, 7 + d3, 20 + d4] : List Int).map V.int))) l = some (.lst (ss.map V.str)) := by rw [upd_ne nlm]; exact hl9
  have B010 : But p H (upd H9 m (.lst (([d1, 4, 5, 6, 8, 3 + d2, 7 + d3, 20 + d4] : List Int).map V.int))) := (B5.trans B59).trans (But.same (same_new hm _))
  change (upd H9 m (.lst (([d1, 4, 5, 6, 8, 3 + d2, 7 + d3, 20 + d4] : List Int).map V.int))) r = none at hr0
  have npr : p ≠ r := by obtain ⟨o, ho⟩ := L10.here; exact ne_of_none ho hr0
  have nlr : l ≠ r := ne_of_none hl10 hr0
  have nmr : m ≠ r := ne_of_none hm10 hr0
  have hrn : H r = none := free_of B010 npr hr0
  refine ⟨_, rfl, _, rfl, p, c5 + 1 + 1 + 1 + 1, _, rfl, L10.new hr0, by omega, by decide, by decide, fun ix H11 ix0 ix1 L11 B11 => ?_⟩
  have hm11 : H11 m = some (.lst (([d1, 4, 5, 6, 8, 3 + d2, 7 + d3, 20 + d4] : List Int).map V.int)) := B11 m _ (by rw [upd_ne nmr]; exact hm10) npm.symm
  obtain ⟨many, hmm, hat⟩ := at_intM (ns := [d1, 4, 5, 6, 8, 3 + d2, 7 + d3, 20 + d4]) ix0 ix1
  have hm1 : 0 ≤ many ∧ many ≤ 60 := by
    simp only [List.mem_cons, List.not_mem_nil, or_false] at hmm
    omega
  refine ⟨m, _, _, _, rfl, rfl, SqL.of hm11, hat, _, rfl, by omega, by omega, ?_⟩
  have hr11 : H11 r = some (.lst (([] : List Str).map V.str)) := B11 r _ upd_same npr.symm
  have hl11 : H11 l = some (.lst (ss.map V.str)) := B11 l _ (by rw [upd_ne nlr]; exact hl10) npl.symm
  have B011 : But p H H11 := (B010.trans (But.same (same_new hr0 _))).trans B11
  refine for_range (fun i σ H2 => ∃ (ts : List Str) (v1 v2 : Option V) (c2 : Int), σ = [some (.ref p), some (.ref l), some (.ref m), some (.ref r), v1, v2, none, none] ∧ H2 r = some (.lst (ts.map V.str)) ∧ H2 l = some (.lst (ss.map V.str)) ∧ ts.length = i ∧ (∀ s ∈ ts, s.length ≤ 28 ∧ AZ s) ∧ Left H2 p c2 ∧ c5 + 5 ≤ c2 ∧ c2 ≤ c5 + 5 + 8 * i ∧ (∀ b o, H b = some o → b ≠ p → H2 b = some o)) ⟨[], none, none, c5 + 1 + 1 + 1 + 1 + 1, rfl, hr11, hl11, rfl, (fun s hs => by cases hs), L11, by omega, by omega, B011⟩ ?_ ?_
  · rintro i σ H2 hi ⟨ts, v1, v2, c2, rfl, hr2, hl2, hn, h28, L2, a1', a2', B2⟩
    have hi60 : (i : Int) < 61 := by omega
    refine ⟨_, rfl, _, rfl, p, l, c2, ss, rfl, L2, by omega, hl2, n1, n4, h24, fun key c3 H3 hkey hkaz L3 a3 a4 B3 => ?_⟩
    have hr3 := B3 r _ hr2 npr.symm
    have hl3 := B3 l _ hl2 npl.symm
    have fin : ∀ (k2 : Str) (c4 : Int) (H4 : Hp), k2.length ≤ 28 ∧ AZ k2 → Left H4 p c4 → c2 ≤ c4 → c4 ≤ c2 + 8 → H4 r = some (.lst (ts.map V.str)) → H4 l = some (.lst (ss.map V.str)) → (∀ b o, H b = some o → b ≠ p → H4 b = some o) →
        ∃ (ts' : List Str) (v1 v2 : Option V) (c5' : Int), [some (V.ref p), some (V.ref l), some (V.ref m), some (V.ref r), some (V.int (0 + (i : Int))), some (V.str k2), none, none] = [some (.ref p), some (.ref l), some (.ref m), some (.ref r), v1, v2, none, none] ∧
          (upd H4 r (.lst (ts.map V.str ++ [.str k2]))) r = some (.lst (ts'.map V.str)) ∧ (upd H4 r (.lst (ts.map V.str ++ [.str k2]))) l = some (.lst (ss.map V.str)) ∧ ts'.length = i + 1 ∧ (∀ s ∈ ts', s.length ≤ 28 ∧ AZ s) ∧ Left (upd H4 r (.lst (ts.map V.str ++ [.str k2]))) p c5' ∧ c5 + 5 ≤ c5' ∧ c5' ≤ c5 + 5 + 8 * ((i + 1 : Nat) : Int) ∧
          (∀ b o, H b = some o → b ≠ p → (upd H4 r (.lst (ts.map V.str ++ [.str k2]))) b = some o) := fun k2 c4 H4 hk L4 b1 b2 hr4 hl4 B4 => by
      refine ⟨ts ++ [k2], _, _, c4, rfl, ?_, ?_, by rw [List.length_append, hn]; rfl, ?_, L4.at npr, by omega, by omega, fun b o e n => ?_⟩
      · rw [upd_same, List.map_append]; rfl
      · rw [upd_ne nlr]; exact hl4
      · intro x hx
        rcases List.mem_append.mp hx with hx | hx
        · exact h28 x hx
        · rw [List.mem_singleton.mp hx]; exact hk
      · rw [upd_ne (ne_of_none e hrn)]
        exact B4 b o e n
    have hlt : (ts.map V.str).length < sizeLine := by rw [List.length_map, hn]; exact small1000 (by omega)
    refine ⟨_, rfl, (by show 0 ≤ sizeLine; decide), fun e he => ?_⟩
    have hr3' : (upd H3 e (.lst [])) r = some (.lst (ts.map V.str)) := by rw [upd_ne (ne_of_none hr3 he)]; exact hr3
    have hl3' : (upd H3 e (.lst [])) l = some (.lst (ss.map V.str)) := by rw [upd_ne (ne_of_none hl3 he)]; exact hl3
    refine ⟨.list (ts.map PyData.str), .list [], .lst (SqL.of hr3') (dv_strs ts), .lst (SqL.of upd_same) .nil, shaped_strs ts (fun s h => (h28 s h).2), (by decide +kernel), _, rfl, ?_⟩
    have B3' : ∀ b o, H b = some o → b ≠ p → (upd H3 e (.lst [])) b = some o := fun b o z n => same_new he _ b o (B3 b o (B2 b o z n) n)
    cases ts with
    | nil =>
      have ev : (if true = true then !PyData.eqv (.list (([] : List Str).map PyData.str)) (.list []) else PyData.eqv (.list (([] : List Str).map PyData.str)) (.list [])) = false := by decide +kernel
      rw [ev]
      refine iteF (iteF ?_)
      refine ⟨_, rfl, .inl ⟨rfl, _, SqL.of hr3'⟩, _, rfl, r, _, _, rfl, rfl, hr3', hlt, ?_⟩
      exact fin key c3 _ ⟨hkey, hkaz⟩ (L3.new he) (by omega) (by omega) hr3' hl3' B3'
    | cons t0 tr =>
      have ev : (if true = true then !PyData.eqv (.list ((t0 :: tr).map PyData.str)) (.list []) else PyData.eqv (.list ((t0 :: tr).map PyData.str)) (.list [])) = true := by simp [PyData.eqv, PyData.eqvAll]
      rw [ev]
      refine iteT ⟨_, rfl, p, c3, _, rfl, L3.new he, by omega, by decide, by decide, fun d H5' d0 d1' L5' B5' => ?_⟩
      have hr5 := B5' r _ hr3' npr.symm
      have hl5' := B5' l _ hl3' npl.symm
      refine ⟨rfl, _, rfl, ite2 (fun _ => ?_) (fun _ => ?_)⟩
      · have hlen : ((((t0 :: tr).map V.str).length : Nat) : Int) = ((t0 :: tr).length : Int) := by rw [List.length_map]
        have hpos : (0 : Int) < ((t0 :: tr).length : Int) := by simp
        refine ⟨_, rfl, _, rfl, _, rfl, r, _, rfl, .inl (SqL.of hr5), p, c3 + 1, _, rfl, L5', by omega, by omega, by omega, fun d' H6' d0' d1'' L6' B6' => ?_⟩
        obtain ⟨st, hs1, hs2⟩ := at_str (ss := t0 :: tr) d0' (by omega)
        have hr6 := B6' r _ hr5 npr.symm
        refine ⟨r, _, _, _, rfl, rfl, SqL.of hr6, hs2, ?_⟩
        refine ⟨_, rfl, .inl ⟨rfl, _, SqL.of hr6⟩, _, rfl, r, _, _, rfl, rfl, hr6, hlt, ?_⟩
        exact fin st _ _ (h28 st hs1) L6' (by omega) (by omega) hr6 (B6' l _ hl5' npl.symm) fun b o z n => B6' b o (B5' b o (B3' b o z n) n) n
      · refine ⟨_, rfl, .inl ⟨rfl, _, SqL.of hr5⟩, _, rfl, r, _, _, rfl, rfl, hr5, hlt, ?_⟩
        exact fin key _ _ ⟨hkey, hkaz⟩ L5' (by omega) (by omega) hr5 hl5' fun b o z n => B5' b o (B3' b o z n) n
  · rintro σ H2 ⟨ts, v1, v2, c2, rfl, hr2, hl2, hn, h28, L2, a1', a2', B2⟩
    have hn60 : ts.length ≤ 60 := by omega
    refine ⟨_, rfl, p, c2, _, rfl, L2, by omega, by decide, by decide, fun wy H3 w0 w1 L3 B3 => ?_⟩
    have hr3 := B3 r _ hr2 npr.symm
    have B03 : But p H H3 := fun b o h n => B3 b o (B2 b o h n) n
    refine ⟨_, rfl, r, _, rfl, .inl (SqL.of hr3), _, _, rfl, rfl, ⟨by decide, by decide⟩, ?_⟩
    refine ⟨_, rfl, rfl, _, rfl, ite2 (fun _ => ?_) (fun _ => ?_)⟩
    · refine ⟨_, rfl, r, ts, rfl, SqL.of hr3, by omega, fun x rs hx perm srt => ?_⟩
      have npx : p ≠ x := by obtain ⟨o, ho⟩ := L3.here; exact ne_of_none ho hx
      exact q x rs _ _ (free_of B03 npx hx) upd_same (by rw [perm.length_eq]; omega) (fun s hs => h28 s (perm.mem_iff.mp hs)) (L3.new hx) (by omega) (by omega) (B03.trans (But.same (same_new hx _)))
    refine ⟨_, rfl, rfl, _, rfl, ite2 (fun _ => ?_) (fun _ => ?_)⟩
    · refine ⟨_, rfl, r, ts, rfl, SqL.of hr3, by omega, fun x rs hx perm srt => ?_⟩
      refine ⟨_, rfl, _, rfl, _, rfl, x, _, rfl, SqL.of upd_same, by decide, fun y hy => ?_⟩
      have B04 := B03.trans (But.same (same_new hx (.lst (rs.map V.str))))
      have L4 : Left (upd H3 x (.lst (rs.map V.str))) p (c2 + 1) := L3.new hx
      have npy : p ≠ y := by obtain ⟨o, ho⟩ := L4.here; exact ne_of_none ho hy
      exact q y rs.reverse _ _ (free_of B04 npy hy) (by rw [upd_same, pickV_rev, List.map_reverse]) (by rw [List.length_reverse, perm.length_eq]; omega) (fun s hs => h28 s (perm.mem_iff.mp (List.mem_reverse.mp hs))) (L4.new hy) (by omega) (by omega) (B04.trans (But.same (same_new hy _)))
    refine ⟨_, rfl, rfl, _, rfl, ite2 (fun _ => ?_) (fun _ => ?_)⟩
    · have hcut : ((((ts.map V.str).length : Nat) : Int) / 2) = ((ts.length / 2 : Nat) : Int) := by rw [List.length_map]; omega
      simp only [hcut]
      obtain ⟨e1, e2⟩ := cut_half ts (ts.length / 2) (by omega)
      refine ⟨_, rfl, _, rfl, _, rfl, r, _, rfl, SqL.of hr3, fun y hy => ?_⟩
      rw [e1]
      refine ⟨y, ts.take (ts.length / 2), rfl, SqL.of upd_same, by rw [List.length_take]; omega, fun x rs hx perm srt => ?_⟩
      have S5 : Same H3 (upd (upd H3 y (.lst ((ts.take (ts.length / 2)).map V.str))) x (.lst (rs.map V.str))) := (same_new hy _).trans (same_new hx _)
      have hx5 : (upd (upd H3 y (.lst ((ts.take (ts.length / 2)).map V.str))) x (.lst (rs.map V.str))) x = some (.lst (rs.map V.str)) := upd_same
      generalize upd (upd H3 y (.lst ((ts.take (ts.length / 2)).map V.str))) x (.lst (rs.map V.str)) = H5x at S5 hx5 ⊢
      refine ⟨_, rfl, _, rfl, _, rfl, r, _, rfl, SqL.of (S5 _ _ hr3), fun y2 hy2 => ?_⟩
      rw [e2]
      refine ⟨y2, ts.drop (ts.length / 2), rfl, SqL.of upd_same, by rw [List.length_drop]; omega, fun x2 rs2 hx2 perm2 srt2 => ?_⟩
      have S6 : Same H5x (upd (upd H5x y2 (.lst ((ts.drop (ts.length / 2)).map V.str))) x2 (.lst (rs2.map V.str))) := (same_new hy2 _).trans (same_new hx2 _)
      have hx6 : (upd (upd H5x y2 (.lst ((ts.drop (ts.length / 2)).map V.str))) x2 (.lst (rs2.map V.str))) x2 = some (.lst (rs2.map V.str)) := upd_same
      generalize upd (upd H5x y2 (.lst ((ts.drop (ts.length / 2)).map V.str))) x2 (.lst (rs2.map V.str)) = H6x at S6 hx6 ⊢
      have l1 := perm.length_eq
      have l2 := perm2.length_eq
      rw [List.length_take] at l1
      rw [List.length_drop] at l2
      refine ⟨x, x2, _, _, rfl, rfl, S6 _ _ hx5, hx6, (by rw [List.length_map, List.length_map]; exact small (by omega)), fun z hz => ?_⟩
      have L6x := (L3.same S5).same S6
      have npz : p ≠ z := by obtain ⟨o, ho⟩ := L6x.here; exact ne_of_none ho hz
      have B06 : But p H H6x := B03.trans (But.same (S5.trans S6))
      refine q z (rs ++ rs2) _ _ (free_of B06 npz hz) (by rw [upd_same, List.map_append]) (by rw [List.length_append]; omega) (fun s hs => ?_) (L6x.new hz) (by omega) (by omega) (B06.trans (But.same (same_new hz _)))
      rcases List.mem_append.mp hs with hs | hs
      · exact h28 s (List.mem_of_mem_take (perm.mem_iff.mp hs))
      · exact h28 s (List.mem_of_mem_drop (perm2.mem_iff.mp hs))
    · exact ⟨_, rfl, q r ts _ H3 hrn hr3 (by omega) h28 L3 (by omega) (by omega) B03⟩
theorem Rd.out {H : Hp} {ls : List Addr} {ds : List (List Int)} (h : Rd H ls ds) {l : Addr} (hl : H l = none) : l ∉ ls := fun hm => by
  obtain ⟨i, hi⟩ := List.mem_iff_getElem?.mp hm
  obtain ⟨d, _, hd⟩ := h.at hi
  rw [hl] at hd; cases hd
theorem Rd.split {H : Hp} : ∀ {ls : List Addr} {ds : List (List Int)} {d : List Int}, Rd H ls (ds ++ [d]) → ∃ ms l, ls = ms ++ [l] ∧ Rd H ms ds ∧ H l = some (.lst (d.map V.int))
  | [], [], d, h => h.elim
  | [], _ :: _, d, h => h.elim
  | [l], [], d, h => ⟨[], l, rfl, trivial, h.1⟩
  | l :: m :: ls, [], d, h => h.2.elim
  | l :: ls, e :: ds, d, h => by
    obtain ⟨ms, x, e1, e2, e3⟩ := Rd.split (ls := ls) (ds := ds) h.2
    exact ⟨l :: ms, x, by rw [e1]; rfl, ⟨h.1, e2⟩, e3⟩
theorem comp_list {K : PySem.W.Frag} {a : Addr} {xs : List V} {k : Nat} {D : Addr} {σ : L2.St} {H1 : Hp} {g : TG} {te : TE} {Q : VK} (Pv : Nat → List V → L2.St → Hp → Prop) (h0 : Pv 0 [] (σ ++ List.replicate k none) (upd H1 D (.lst [])))
    (hl : ∀ i ys σ H, Pv i ys σ H → SqL K H a xs)
    (hs : ∀ i x ys σ H, xs[i]? = some x → Pv i ys σ H → g x σ H fun σ4 H4 => te σ4 H4 fun y H6 => H6 D = some (.lst ys) ∧ ys.length < sizeLine ∧ Pv (i + 1) (ys ++ [y]) σ4 (upd H6 D (.lst (ys ++ [y]))))
    (hd : ∀ ys σ H, Pv xs.length ys σ H → Q (.ref D) H) : CompGo (Itl K a) D k σ H1 g tYes te Q := by
  refine ⟨fun i m ys σ H => m = xs.length - i ∧ i ≤ xs.length ∧ Pv i ys σ H, ⟨xs.length, by simp, Nat.zero_le _, h0⟩, ?_⟩
  rintro i m ys σ H ⟨rfl, hi, p⟩
  have q1 := hl i ys σ H p
  by_cases hlt : i < xs.length
  · refine .inr ⟨⟨xs, xs[i], q1, List.getElem?_eq_getElem hlt⟩, Pv (i + 1), fun ys' σ' H' p' => ⟨xs.length - (i + 1), by omega, rfl, hlt, p'⟩, fun x H' y => ?_⟩
    obtain ⟨rfl, e⟩ := y
    simp only [tYes, ↓reduceIte]
    exact hs i x ys σ _ (e xs q1) p
  · have e : i = xs.length := by omega
    exact .inl ⟨⟨xs, q1, by omega⟩, hd ys σ H (e ▸ p)⟩
def spNum : Sp := fun vs H Q _ => (∃ i : Int, vs = [.int i] ∧ Q (.bl true) H) ∨ (∃ (a : Addr) (xs : List V), vs = [.ref a] ∧ H a = some (.tup xs) ∧ Q (.bl false) H)
theorem k_tup_int (K : PySem.W.Frag) : PySem.W.kitOne K (.type "tuple") (.type "int") = some false := by unfold PySem.W.kitOne PySem.W.kitCls; rfl
theorem ok_num (T : Tops K mg) : Df P w K mg base 1 "is_number" ["thing"] spNum := by
  refine T.t_is_number.df sc_is_number (fun vs H Q E h => ?_) (fun cdv f A outer s H vs Q E hr h => ?_)
  · rcases h with ⟨_, rfl, _⟩ | ⟨_, _, rfl, _⟩ <;> rfl
  refine ⟨_, (@pss_one _ _ _ (@ps_ret _ _ _ _ (@pe_and _ _ _ _ _ _ _ (@pe_callB _ _ _ _ _ _ _ _ _ (isiQ K) (by rfl) T.b.n_isinstance boot_isinstance (@pa_cons _ _ _ _ _ (@pv _ 0 _ _ (by rfl) (Or.inl rfl) (by decide) (by decide)) (@pa_cons _ _ _ _ _ (@pe_ty _ _ _ _ T.b.n_int boot_int (by rfl) (by decide) (by decide)) (@pa_nil _) (by rfl)) (by rfl)) (by decide) (by decide) (by rfl) (by rfl)) (@pe_one _ _ _ _ _ (@pe_not _ _ _ _ (@pe_callB _ _ _ _ _ _ _ _ _ (isiQ K) (by rfl) T.b.n_isinstance boot_isinstance (@pa_cons _ _ _ _ _ (@pv _ 0 _ _ (by rfl) (Or.inl rfl) (by decide) (by decide)) (@pa_cons _ _ _ _ _ (@pe_ty _ _ _ _ T.b.n_bool boot_bool (by rfl) (by decide) (by decide)) (@pa_nil _) (by rfl)) (by rfl)) (by decide) (by decide) (by rfl) (by rfl))))))), ?_⟩
  rcases h with ⟨i, rfl, q⟩ | ⟨a, xs, rfl, ha, q⟩
  · exact ⟨_, rfl, _, "int", _, _, rfl, .int i, k_int_int K, _, rfl, iteT ⟨_, rfl, _, "bool", _, _, rfl, .int i, k_int_bl K, _, rfl, q⟩⟩
  · exact ⟨_, rfl, _, "int", _, _, rfl, .tup ha, k_tup_int K, _, rfl, iteF q⟩
/-- key and number -/
def kk (e : Str × Int) : List Key := [.inr e.1, .inl e.2]
def Ord (E : List (Str × Int)) : Prop := E.Pairwise fun a b => lexB (kk b) (kk a) = false
/-- a thing with its number -/
def ks (ss : List Str) (n : Int) : Str × Int := (ss.getD n.toNat "", n)
def Least (ss : List Str) (A : List Int) (n : Int) : Prop := n ∈ A ∧ ∀ m ∈ A, lexB (kk (ks ss m)) (kk (ks ss n)) = false
theorem kk_inj {e f : Str × Int} (h : kk e = kk f) : e = f := by
  obtain ⟨a, b⟩ := e
  obtain ⟨c, d⟩ := f
  unfold kk at h
  injection h with h1 h2
  injection h2 with h2 _
  have e1 : a = c := Sum.inr.inj h1
  have e2 : b = d := Sum.inl.inj h2
  rw [e1, e2]
theorem least_one {ss : List Str} {A : List Int} {n m : Int} (h : Least ss A n) (g : Least ss A m) : n = m := by
  have := kk_inj (lexB_total _ _ (g.2 n h.1) (h.2 m g.1))
  exact congrArg Prod.snd this
/-- whether the one's key is less than the other's -/
def ltK (ss : List Str) (c n : Int) : Prop := cds (ss.getD c.toNat "") < cds (ss.getD n.toNat "")
inductive Res (ss : List Str) : List Int → List Int → Nat → List Int → List (List Int) → List (List Int) → Prop where
  | stop0 {c : Nat} {done : List (List Int)} : Res ss [] [] c [] done done
  | stop {c : Nat} {g : Int} {gone : List Int} {done : List (List Int)} : Res ss [] [] c (g :: gone) done (done ++ [g :: gone])
  | switch {b : Int} {B : List Int} {c : Nat} {gone : List Int} {done R : List (List Int)} : Res ss (b :: B) [] c [] (done ++ [gone]) R → Res ss [] (b :: B) c gone done R
  | stepN {A B : List Int} {c : Nat} {gone : List Int} {done R : List (List Int)} {n : Int} : Least ss A n → ¬ c < ss.length → Res ss (A.erase n) B c (gone ++ [n]) done R → Res ss A B c gone done R
  | stepA {A B : List Int} {c : Nat} {gone : List Int} {done R : List (List Int)} {n : Int} : Least ss A n → c < ss.length → ¬ ltK ss c n → Res ss (A.erase n ++ [(c : Int)]) B (c + 1) (gone ++ [n]) done R → Res ss A B c gone done R
  | stepB {A B : List Int} {c : Nat} {gone : List Int} {done R : List (List Int)} {n : Int} : Least ss A n → c < ss.length → ltK ss c n → Res ss (A.erase n) (B ++ [(c : Int)]) (c + 1) (gone ++ [n]) done R → Res ss A B c gone done R
/-- what is in, as it is kept: run, key, number -/
def kt (ss : List Str) (r : Int) (n : Int) : List Key := [.inl r, .inr (ss.getD n.toNat ""), .inl n]
theorem kt_lex {ss : List Str} {r n m : Int} : lexB (kt ss r n) (kt ss r m) = lexB (kk (ks ss n)) (kk (ks ss m)) := by
  unfold kt
  rw [lexB_cons, if_pos rfl]
  rfl
theorem kt_up {ss : List Str} {r n m : Int} : lexB (kt ss r n) (kt ss (r + 1) m) = true := by
  unfold kt
  rw [lexB_cons, if_neg (by intro z; have := Sum.inl.inj z; omega)]
  exact decide_eq_true (by omega)
def inAll (ss : List Str) (r : Int) (A B : List Int) : List (List Key) := A.map (kt ss r) ++ B.map (kt ss (r + 1))
theorem in_min {ss : List Str} {r : Int} {A B : List Int} {M : List (List Key)} (hp : M.Perm (inAll ss r A B)) (hA : A ≠ []) {t : List Key} (ht : t ∈ M) (hm : ∀ u ∈ M, lexB u t = false) : ∃ n, t = kt ss r n ∧ Least ss A n := by
  have h1 := hp.mem_iff.mp ht
  rcases List.mem_append.mp h1 with h1 | h1
  · obtain ⟨n, hn, rfl⟩ := List.mem_map.mp h1
    refine ⟨n, rfl, hn, fun m hm' => ?_⟩
    rw [← kt_lex (r := r)]
    exact hm _ (hp.mem_iff.mpr (List.mem_append_left _ (List.mem_map_of_mem hm')))
  · obtain ⟨m, _, rfl⟩ := List.mem_map.mp h1
    cases A with
    | nil => exact absurd rfl hA
    | cons a A =>
      have := hm _ (hp.mem_iff.mpr (List.mem_append_left _ (List.mem_map_of_mem (List.mem_cons_self (a := a)))))
      rw [kt_up] at this; cases this
theorem in_erase {ss : List Str} {r : Int} {A B : List Int} {M M' : List (List Key)} {n : Int} (hp : M.Perm (inAll ss r A B)) (hn : n ∈ A) (he : M.Perm (kt ss r n :: M')) : M'.Perm (inAll ss r (A.erase n) B) := by
  have h1 : (kt ss r n :: M').Perm (inAll ss r A B) := he.symm.trans hp
  have h3 : (inAll ss r A B).Perm (kt ss r n :: inAll ss r (A.erase n) B) := by
    unfold inAll
    exact ((List.perm_cons_erase hn).map (kt ss r)).append_right _
  exact (h1.trans h3).cons_inv
theorem ty_lst {K : PySem.W.Frag} {H : Hp} {a : Addr} {xs : List V} (h : H a = some (.lst xs)) : L2.tyV K "list" (.ref a) H := .inl ⟨rfl, _, SqL.of h⟩
def spRoom : Sp := fun vs H Q _ => ∃ (p : Addr) (c : Int), vs = [.ref p] ∧ Left H p c ∧ c < 2 ^ 40 ∧ ∀ (v c' : Int) (H' : Hp), 1 ≤ v → v ≤ 16 → Left H' p c' → c ≤ c' → c' ≤ c + 2 → But p H H' → Q (.int v) H'
theorem ok_room (T : Tops K mg) (f_l_pick : Df P w K mg base 2 "_law_pick" ["_law_left_here", "_law_many"] spPick) : Df P w K mg base 3 "_law_room" ["_law_left_here"] spRoom := by
  refine T.t_l_room.df sc_l_room (fun vs H Q E h => ?_) (fun cdv f A outer s H vs Q E hr h => ?_)
  · obtain ⟨p, c, rfl, _⟩ := h
    rfl
  obtain ⟨p, c, rfl, hL, c1, q⟩ := h
  refine ⟨_, (@pss_one _ _ _ (@ps_ret _ _ _ _ (@pe_ix _ _ _ _ _ _ _ (ixL K) (@pe_lst _ _ _ _ (@pa_cons _ _ _ _ _ (@pe_int _ _ _ _) (@pa_cons _ _ _ _ _ (@pe_int _ _ _ _) (@pa_cons _ _ _ _ _ (@pe_int _ _ _ _) (@pa_cons _ _ _ _ _ (@pe_int _ _ _ _) (@pa_cons _ _ _ _ _ (@pe_int _ _ _ _) (@pa_cons _ _ _ _ _ (@pe_int _ _ _ _) (@pa_cons _ _ _ _ _ (@pe_int _ _ _ _) (@pa_cons _ _ _ _ _ (@pe_op _ _ _ _ _ _ _ _ op_add (@pe_int _ _ _ _) (@pe_df _ _ _ _ _ _ _ _ _ _ _ f_l_pick hr (@pa_cons _ _ _ _ _ (@pv _ 0 _ _ (by rfl) (Or.inl rfl) (by decide) (by decide)) (@pa_cons _ _ _ _ _ (@pe_int _ _ _ _) (@pa_nil _) (by rfl)) (by rfl)) (by first | decide | exact Nat.le_refl _ | omega) (by rfl) (by decide) (by rfl) (by rfl))) (@pa_nil _) (by rfl)) (by rfl)) (by rfl)) (by rfl)) (by rfl)) (by rfl)) (by rfl)) (by rfl))) (@pe_df _ _ _ _ _ _ _ _ _ _ _ f_l_pick hr (@pa_cons _ _ _ _ _ (@pv _ 0 _ _ (by rfl) (Or.inl rfl) (by decide) (by decide)) (@pa_cons _ _ _ _ _ (@pe_int _ _ _ _) (@pa_nil _) (by rfl)) (by rfl)) (by first | decide | exact Nat.le_refl _ | omega) (by rfl) (by decide) (by rfl) (by rfl)) (fun _ _ => rfl)))), ?_⟩
  have c0 := hL.ge
  refine ⟨_, rfl, p, c, _, rfl, hL, by omega, by decide, by decide, fun d H1 d0 d1 L1 B1 => ⟨_, _, rfl, rfl, (by show 8 ≤ sizeLine; decide), fun e he => ?_⟩⟩
  have npe : p ≠ e := by obtain ⟨o, ho⟩ := L1.here; exact ne_of_none ho he
  refine ⟨_, rfl, p, c + 1, _, rfl, L1.new he, by omega, by decide, by decide, fun i H2 i0 i1 L2 B2 => ?_⟩
  obtain ⟨v, hv, hat⟩ := at_intM (ns := [1, 2, 3, 4, 5, 2, 3, 1 + d]) i0 i1
  have he2 : H2 e = some (.lst (([1, 2, 3, 4, 5, 2, 3, 1 + d] : List Int).map V.int)) := B2 e _ upd_same npe.symm
  have hv1 : 1 ≤ v ∧ v ≤ 16 := by
    simp only [List.mem_cons, List.not_mem_nil, or_false] at hv
    omega
  exact ⟨e, _, _, _, rfl, rfl, SqL.of he2, hat, q v _ _ hv1.1 hv1.2 L2 (by omega) (by omega) ((B1.trans (But.same (same_new he _))).trans B2)⟩
def spBehind : Sp := fun vs H Q _ => ∃ (r : Int) (x y : Str), vs = [.int r, .str x, .str y] ∧ x.length ≤ 1000 ∧ y.length ≤ 1000 ∧ (¬ cds y < cds x → Q (.int r) H) ∧ (cds y < cds x → Q (.int (r + 1)) H)
theorem ok_behind (T : Tops K mg) (f_liken : Df P w K mg base 3 "liken" ["one", "other"] spLiken) : Df P w K mg base 4 "run_behind" ["run", "key", "comer"] spBehind := by
  refine T.t_run_behind.df sc_run_behind (fun vs H Q E h => ?_) (fun cdv f A outer s H vs Q E hr h => ?_)
  · obtain ⟨r, x, y, rfl, _⟩ := h
    rfl
  obtain ⟨r, x, y, rfl, hx, hy, q1, q2⟩ := h
  refine ⟨_, (@pss_one _ _ _ (@ps_ret _ _ _ _ (@pe_ifExp _ _ _ _ _ _ _ _ (@pt_cmpR _ _ _ _ _ _ _ _ op_ge (@pe_df _ _ _ _ _ _ _ _ _ _ _ f_liken hr (@pa_cons _ _ _ _ _ (@pv _ 2 _ _ (by rfl) (Or.inl rfl) (by decide) (by decide)) (@pa_cons _ _ _ _ _ (@pv _ 1 _ _ (by rfl) (Or.inl rfl) (by decide) (by decide)) (@pa_nil _) (by rfl)) (by rfl)) (by first | decide | exact Nat.le_refl _ | omega) (by rfl) (by decide) (by rfl) (by rfl)) (@pe_int _ _ _ _) (nomark _)) (@pv _ 0 _ _ (by rfl) (Or.inl rfl) (by decide) (by decide)) (@pe_op _ _ _ _ _ _ _ _ op_add (@pv _ 0 _ _ (by rfl) (Or.inl rfl) (by decide) (by decide)) (@pe_int _ _ _ _))))), ?_⟩
  refine ⟨_, rfl, _, rfl, y, x, rfl, hy, hx, _, _, rfl, rfl, _, rfl, ite2 (fun d => ?_) (fun d => ?_)⟩
  · have d' : (0 : Int) ≤ ordC (cds y) (cds x) := of_decide_eq_true d
    exact ⟨_, rfl, q1 (fun z => by have := (lt_ord _ _).mp z; omega)⟩
  · have d' : ¬ (0 : Int) ≤ ordC (cds y) (cds x) := fun z => d (decide_eq_true z)
    exact ⟨_, rfl, _, _, rfl, rfl, q2 ((lt_ord _ _).mpr (by omega))⟩
/-- what came in at first -/
def first (k : Nat) : List Int := upsI 0 k
/-- the promise of both -/
def spRuns (K : PySem.W.Frag) : Sp := fun vs H Q _ => ∃ (a : Addr) (ss : List Str) (room : Nat), vs = [.ref a, .int room] ∧ SqL K H a (ss.map V.str) ∧ ss.length ≤ 60 ∧ (∀ s ∈ ss, s.length ≤ 1000) ∧ room ≤ 100 ∧
  ∀ (r : Addr) (ls : List Addr) (R : List (List Int)) (H' : Hp), H r = none → H' r = some (.lst (ls.map V.ref)) → r ∉ ls → (∀ l ∈ ls, H l = none) → Rd H' ls R → Res ss (first (min room ss.length)) [] (min room ss.length) [] [] R → R.length ≤ 100 → (∀ d ∈ R, d.length ≤ 100) → Same H H' → Q (.ref r) H'
theorem first_mem {k : Nat} {n : Int} (h : n ∈ first k) : 0 ≤ n ∧ n < k := by
  unfold first upsI at h
  obtain ⟨m, hm, rfl⟩ := List.mem_map.mp h
  have := List.mem_range.mp hm
  omega
theorem at_key {ss : List Str} {n : Int} (h0 : 0 ≤ n) (h : n < ss.length) : atI (ss.map V.str) n = some (.str (ss.getD n.toNat "")) := by
  have hk : n.toNat < ss.length := by omega
  have ek : n = ((n.toNat : Nat) : Int) := by omega
  have q : atI (ss.map V.str) ((n.toNat : Nat) : Int) = some (.str ss[n.toNat]) := atI_nat (by rw [List.getElem?_map, List.getElem?_eq_getElem hk] <;> rfl)
  rw [← ek] at q
  rw [q, List.getD_eq_getElem?_getD, List.getElem?_eq_getElem hk]; rfl
theorem getD_small {ss : List Str} (h : ∀ s ∈ ss, s.length ≤ 1000) (n : Nat) : (ss.getD n "").length ≤ 1000 := by
  rw [List.getD_eq_getElem?_getD]
  cases hx : ss[n]? with
  | none => decide
  | some z => exact h z (List.mem_of_getElem? hx)
theorem AtT.mono {H H' : Hp} {ts : TupL} (h : AtT H ts) (s : Same H H') : AtT H' ts := fun x hx => s _ _ (h x hx)
theorem tup_keep {H : Hp} {D : Addr} {ys : List V} (h : H D = some (.lst ys)) (o : HO) : ∀ a xs, H a = some (.tup xs) → (upd H D o) a = some (.tup xs) := fun a xs e => by
  have nb : a ≠ D := by intro z; rw [z, h] at e; cases e
  rw [upd_ne nb]; exact e
/-- runs as they are written down -/
def told (gone : List Int) (done : List (List Int)) : List (List Int) := if gone = [] then done else done ++ [gone]
/-- how runs_of stands -/
structure At (ss : List Str) (k : Nat) (H0 H : Hp) (ia ru : Addr) (ts : TupL) (ls : List Addr) (A B : List Int) (c : Nat) (gone : List Int) (done : List (List Int)) : Prop where
  ins : H ia = some (.lst (refs ts))
  att : AtT H ts
  per : (ts.map (·.2)).Perm (inAll ss (done.length : Int) A B)
  run : H ru = some (.lst (ls.map V.ref))
  rd : Rd H ls (told gone done)
  rul : ru ∉ ls
  nd : ls.Nodup
  fr : ∀ l ∈ ls, H0 l = none
  ne : ia ≠ ru
  nil : ia ∉ ls
  sm : Same H0 H
  i0 : H0 ia = none
  r0 : H0 ru = none
  hc : c ≤ ss.length
  mem : ∀ n ∈ A ++ B, 0 ≤ n ∧ n < c
  cnt : ((told gone done).map List.length).sum + A.length + B.length + (ss.length - c) = ss.length
  nem : ∀ d ∈ done, d ≠ []
  go : B ≠ [] → A = [] → gone ≠ []
  res : ∀ R, Res ss A B c gone done R → Res ss (first k) [] k [] [] R
theorem erase_perm {α : Type} : ∀ (l : List α) (i : Nat) (h : i < l.length), (l[i] :: l.eraseIdx i).Perm l
  | [], i, h => by simp at h
  | a :: r, 0, h => .refl _
  | a :: r, i + 1, h => by
    rw [List.getElem_cons_succ, List.eraseIdx_cons_succ]
    exact (List.Perm.swap a _ _).trans ((erase_perm r i (by simpa using h)).cons a)
theorem sum_lens : ∀ D : List (List Int), (∀ d ∈ D, d ≠ []) → D.length ≤ (D.map List.length).sum ∧ ∀ d ∈ D, d.length ≤ (D.map List.length).sum
  | [], _ => ⟨Nat.le_refl _, fun d h => by cases h⟩
  | x :: r, h => by
    obtain ⟨a, b⟩ := sum_lens r fun d hd => h d (List.mem_cons_of_mem _ hd)
    have hx : x.length ≠ 0 := fun z => h x (by simp) (List.eq_nil_of_length_eq_zero z)
    rw [List.map_cons, List.sum_cons, List.length_cons]
    refine ⟨by omega, fun d hd => ?_⟩
    rcases List.mem_cons.mp hd with rfl | hd
    · omega
    · have := b d hd; omega
theorem told_ne {gone : List Int} {done : List (List Int)} (h : ∀ d ∈ done, d ≠ []) : ∀ d ∈ told gone done, d ≠ [] := fun d hd => by
  unfold told at hd
  by_cases hg : gone = []
  · rw [if_pos hg] at hd; exact h d hd
  · rw [if_neg hg] at hd
    rcases List.mem_append.mp hd with hd | hd
    · exact h d hd
    · rw [List.mem_singleton.mp hd]; exact hg
theorem told_add (gone : List Int) (done : List (List Int)) (n : Int) : told (gone ++ [n]) done = done ++ [gone ++ [n]] := by unfold told; rw [if_neg (by simp)]
theorem told_sum (gone : List Int) (done : List (List Int)) : ((told gone done).map List.length).sum = (done.map List.length).sum + gone.length := by
  unfold told
  by_cases hg : gone = []
  · rw [if_pos hg, hg]; rfl
  · rw [if_neg hg, List.map_append, List.sum_append]; simp
theorem At.switch {ss : List Str} {k : Nat} {H0 H : Hp} {ia ru : Addr} {ts : TupL} {ls : List Addr} {b : Int} {B : List Int} {c : Nat} {gone : List Int} {done : List (List Int)} (h : At ss k H0 H ia ru ts ls [] (b :: B) c gone done) : At ss k H0 H ia ru ts ls (b :: B) [] c [] (done ++ [gone]) := by
  have hg := h.go (by simp) rfl
  have e : told [] (done ++ [gone]) = told gone done := by unfold told; rw [if_pos rfl, if_neg hg]
  refine ⟨h.ins, h.att, ?_, h.run, by rw [e]; exact h.rd, h.rul, h.nd, h.fr, h.ne, h.nil, h.sm, h.i0, h.r0, h.hc, fun n hn => h.mem n (by simpa using hn), ?_, fun d hd => ?_, fun hb => absurd rfl hb, fun R hR => h.res R (.switch hR)⟩
  · have := h.per
    unfold inAll at this ⊢
    rw [List.map_nil, List.nil_append] at this
    rw [List.map_nil, List.append_nil, List.length_append, List.length_singleton]
    exact this
  · rw [e]; have := h.cnt; simpa using this
  · rcases List.mem_append.mp hd with hd | hd
    · exact h.nem d hd
    · rw [List.mem_singleton.mp hd]; exact hg
theorem first_len (k : Nat) : (first k).length = k := upsI_len 0 k
theorem kt_shape (ss : List Str) (r n : Int) : shape (kt ss r n) = [true, false, true] := rfl
theorem in_shape {ss : List Str} {r : Int} {A B : List Int} {ts : TupL} (hp : (ts.map (·.2)).Perm (inAll ss r A B)) : ∀ t ∈ ts, shape t.2 = [true, false, true] := fun t ht => by
  have := hp.mem_iff.mp (List.mem_map_of_mem (f := fun t : Addr × List Key => t.2) ht)
  rcases List.mem_append.mp this with h | h
  · obtain ⟨n, _, e⟩ := List.mem_map.mp h; rw [← e]; rfl
  · obtain ⟨n, _, e⟩ := List.mem_map.mp h; rw [← e]; rfl
theorem ok_runs (T : Tops K mg) (f_run_behind : Df P w K mg base 4 "run_behind" ["run", "key", "comer"] spBehind) : Df P w K mg base 5 "runs_of" ["things", "room"] (spRuns K) := by
  refine T.t_runs_of.df sc_runs_of (fun vs H Q E h => ?_) (fun cdv f A outer s H vs Q E hr h => ?_)
  · obtain ⟨a, ss, room, rfl, _⟩ := h
    rfl
  obtain ⟨a, ss, room, rfl, hS, h60, hlen, hroom, q⟩ := h
  refine ⟨_, (@pss_cons _ _ _ _ _ (@ps_setComp _ _ _ _ _ 2 _ _ _ _ _ _ _ _ _ _ _ _ sc_runs_of.nd rfl (Or.inl rfl) cs_2 rfl rfl rfl (@pi_range1 _ _ _ _ _ _ rfl T.b.n_range (@pa_cons _ _ _ _ _ (@pe_callB _ _ _ _ _ _ _ _ _ (call_min2 rfl) (by rfl) T.b.n_min boot_min (@pa_cons _ _ _ _ _ (@pv _ 1 _ _ (by rfl) (Or.inl rfl) (by decide) (by decide)) (@pa_cons _ _ _ _ _ (@pe_callB _ _ _ _ _ _ _ _ _ (lenQ K) (by rfl) T.b.n_len PySem.boot_len (@pa_cons _ _ _ _ _ (@pv _ 0 _ _ (by rfl) (Or.inr (Or.inl rfl)) (by decide) (by decide)) (@pa_nil _) (by rfl)) (by decide) (by decide) (by rfl) (by rfl)) (@pa_nil _) (by rfl)) (by rfl)) (by decide) (by decide) (by rfl) (by rfl)) (@pa_nil _) (by rfl)) (by rfl)) (fun _ _ _ _ => (@cg _ _ _ _ _ _ _ _ _ _ _ 9 cs_2 rfl (by decide +kernel) (by rfl))) (fun _ _ _ _ => (@pts_nil _)) (fun _ _ _ _ => (@pe_tup _ _ _ _ _ (@pa_cons _ _ _ _ _ (@pe_int _ _ _ _) (@pa_cons _ _ _ _ _ (@pe_ix _ _ _ _ _ _ _ (ixL K) (@cv _ _ _ _ _ _ _ _ _ _ _ 0 cs_2 rfl (by decide +kernel) (by rfl) (by decide) (by decide)) (@cw _ _ _ _ _ _ _ _ _ _ _ 9 cs_2 rfl (by decide +kernel) (by rfl) (by decide) (by decide)) (fun _ _ => rfl)) (@pa_cons _ _ _ _ _ (@cw _ _ _ _ _ _ _ _ _ _ _ 9 cs_2 rfl (by decide +kernel) (by rfl) (by decide) (by decide)) (@pa_nil _) (by rfl)) (by rfl)) (by rfl)))) (by rfl) (by intro _; rfl) (by first | exact .inl rfl | exact .inr rfl)) (@pss_cons _ _ _ _ _ (@ps_set _ _ 3 _ _ _ _ sc_runs_of.nd rfl (Or.inl rfl) (@pe_callB _ _ _ _ _ _ _ _ _ (lenQ K) (by rfl) T.b.n_len PySem.boot_len (@pa_cons _ _ _ _ _ (@pv _ 2 _ _ (by rfl) (Or.inl rfl) (by decide) (by decide)) (@pa_nil _) (by rfl)) (by decide) (by decide) (by rfl) (by rfl)) (by rfl) (by first | exact .inl rfl | exact .inr rfl)) (@pss_cons _ _ _ _ _ (@ps_set _ _ 4 _ _ _ _ sc_runs_of.nd rfl (Or.inl rfl) (@pe_lst _ _ _ _ (@pa_nil _)) (by rfl) (by first | exact .inl rfl | exact .inr rfl)) (@pss_cons _ _ _ _ _ (@ps_while _ _ _ _ _ _ PassesOwn.never (@pt_cmpR _ _ _ _ _ _ _ _ op_gt (@pe_callB _ _ _ _ _ _ _ _ _ (lenQ K) (by rfl) T.b.n_len PySem.boot_len (@pa_cons _ _ _ _ _ (@pv _ 2 _ _ (by rfl) (Or.inl rfl) (by decide) (by decide)) (@pa_nil _) (by rfl)) (by decide) (by decide) (by rfl) (by rfl)) (@pe_int _ _ _ _) (nomark _)) (@pss_cons _ _ _ _ _ (@ps_set _ _ 5 _ _ _ _ sc_runs_of.nd rfl (Or.inl rfl) (@pe_callB _ _ _ _ _ _ _ _ _ (minT K hr) (by rfl) T.b.n_min boot_min (@pa_cons _ _ _ _ _ (@pv _ 2 _ _ (by rfl) (Or.inl rfl) (by decide) (by decide)) (@pa_nil _) (by rfl)) (by decide) (by decide) (by rfl) (by rfl)) (by rfl) (by first | exact .inl rfl | exact .inr rfl)) (@pss_cons _ _ _ _ _ (@ps_expr _ _ _ _ (@pe_bm _ _ _ _ _ _ _ _ _ _ _ _ PySem.F.plainAttrs_list PySem.F.slot_list_remove PySem.F.type_list_remove (remT hr) (@pv _ 2 _ _ (by rfl) (Or.inl rfl) (by decide) (by decide)) (@pa_cons _ _ _ _ _ (@pv _ 5 _ _ (by rfl) (Or.inl rfl) (by decide) (by decide)) (@pa_nil _) (by rfl)) (by rfl) (by rfl) (by rfl) (by rfl) (by rfl)) (by rfl)) (@pss_cons _ _ _ _ _ (@ps_asg _ _ _ _ _ _ (@pv _ 5 _ _ (by rfl) (Or.inl rfl) (by decide) (by decide)) (@gT _ K _ _ _ 3 _ (@pgs_cons _ _ _ _ _ (@pg_name _ _ 6 _ sc_runs_of.nd rfl (Or.inl rfl) (by first | exact .inl rfl | exact .inr rfl)) (@pgs_cons _ _ _ _ _ (@pg_name _ _ 7 _ sc_runs_of.nd rfl (Or.inl rfl) (by first | exact .inl rfl | exact .inr rfl)) (@pgs_cons _ _ _ _ _ (@pg_name _ _ 8 _ sc_runs_of.nd rfl (Or.inl rfl) (by first | exact .inl rfl | exact .inr rfl)) (@pgs_nil _) (by rfl)) (by rfl)) (by rfl)) (by rfl) (by rfl) (by rfl) (by rfl)) (by rfl) (by rfl) (by rfl)) (@pss_cons _ _ _ _ _ (@ps_if _ _ _ _ _ _ _ _ (@pt_cmpR _ _ _ _ _ _ _ _ op_eq (@pv _ 6 _ _ (by rfl) (Or.inl rfl) (by decide) (by decide)) (@pe_callB _ _ _ _ _ _ _ _ _ (lenQ K) (by rfl) T.b.n_len PySem.boot_len (@pa_cons _ _ _ _ _ (@pv _ 4 _ _ (by rfl) (Or.inl rfl) (by decide) (by decide)) (@pa_nil _) (by rfl)) (by decide) (by decide) (by rfl) (by rfl)) (nomark _)) (@pss_one _ _ _ (@ps_expr _ _ _ _ (@pe_bm _ _ _ _ _ _ _ _ _ _ _ _ PySem.F.plainAttrs_list PySem.F.slot_list_append PySem.F.type_list_append mt_append (@pv _ 4 _ _ (by rfl) (Or.inl rfl) (by decide) (by decide)) (@pa_cons _ _ _ _ _ (@pe_lst _ _ _ _ (@pa_nil _)) (@pa_nil _) (by rfl)) (by rfl) (by rfl) (by rfl) (by rfl) (by rfl)) (by rfl))) (@pss_nil _)) (@pss_cons _ _ _ _ _ (@ps_expr _ _ _ _ (@pe_bm _ _ _ _ _ _ _ _ _ _ _ _ PySem.F.plainAttrs_list PySem.F.slot_list_append PySem.F.type_list_append mt_append (@pe_ix _ _ _ _ _ _ _ (ixL K) (@pv _ 4 _ _ (by rfl) (Or.inl rfl) (by decide) (by decide)) (@pv _ 6 _ _ (by rfl) (Or.inl rfl) (by decide) (by decide)) (fun _ _ => rfl)) (@pa_cons _ _ _ _ _ (@pv _ 8 _ _ (by rfl) (Or.inl rfl) (by decide) (by decide)) (@pa_nil _) (by rfl)) (by rfl) (by rfl) (by rfl) (by rfl) (by rfl)) (by rfl)) (@pss_one _ _ _ (@ps_if _ _ _ _ _ _ _ _ (@pt_cmpR _ _ _ _ _ _ _ _ op_lt (@pv _ 3 _ _ (by rfl) (Or.inl rfl) (by decide) (by decide)) (@pe_callB _ _ _ _ _ _ _ _ _ (lenQ K) (by rfl) T.b.n_len PySem.boot_len (@pa_cons _ _ _ _ _ (@pv _ 0 _ _ (by rfl) (Or.inr (Or.inl rfl)) (by decide) (by decide)) (@pa_nil _) (by rfl)) (by decide) (by decide) (by rfl) (by rfl)) (nomark _)) (@pss_cons _ _ _ _ _ (@ps_expr _ _ _ _ (@pe_bm _ _ _ _ _ _ _ _ _ _ _ _ PySem.F.plainAttrs_list PySem.F.slot_list_append PySem.F.type_list_append mt_append (@pv _ 2 _ _ (by rfl) (Or.inl rfl) (by decide) (by decide)) (@pa_cons _ _ _ _ _ (@pe_tup _ _ _ _ _ (@pa_cons _ _ _ _ _ (@pe_df _ _ _ _ _ _ _ _ _ _ _ f_run_behind hr (@pa_cons _ _ _ _ _ (@pv _ 6 _ _ (by rfl) (Or.inl rfl) (by decide) (by decide)) (@pa_cons _ _ _ _ _ (@pv _ 7 _ _ (by rfl) (Or.inl rfl) (by decide) (by decide)) (@pa_cons _ _ _ _ _ (@pe_ix _ _ _ _ _ _ _ (ixL K) (@pv _ 0 _ _ (by rfl) (Or.inr (Or.inl rfl)) (by decide) (by decide)) (@pv _ 3 _ _ (by rfl) (Or.inl rfl) (by decide) (by decide)) (fun _ _ => rfl)) (@pa_nil _) (by rfl)) (by rfl)) (by rfl)) (by first | decide | exact Nat.le_refl _ | omega) (by rfl) (by decide) (by rfl) (by rfl)) (@pa_cons _ _ _ _ _ (@pe_ix _ _ _ _ _ _ _ (ixL K) (@pv _ 0 _ _ (by rfl) (Or.inr (Or.inl rfl)) (by decide) (by decide)) (@pv _ 3 _ _ (by rfl) (Or.inl rfl) (by decide) (by decide)) (fun _ _ => rfl)) (@pa_cons _ _ _ _ _ (@pv _ 3 _ _ (by rfl) (Or.inl rfl) (by decide) (by decide)) (@pa_nil _) (by rfl)) (by rfl)) (by rfl))) (@pa_nil _) (by rfl)) (by rfl) (by rfl) (by rfl) (by rfl) (by rfl)) (by rfl)) (@pss_one _ _ _ (@ps_aug _ _ 3 _ _ _ _ _ _ sc_runs_of.nd rfl (Or.inl rfl) (@pe_int _ _ _ _) ip_add (by first | exact .inl rfl | exact .inr rfl)))) (@pss_nil _))))))))) (@pss_one _ _ _ (@ps_ret _ _ _ _ (@pv _ 4 _ _ (by rfl) (Or.inl rfl) (by decide) (by decide)))))))), ?_⟩
  have hl : (((ss.map V.str).length : Nat) : Int) = (ss.length : Int) := by rw [List.length_map]
  have hmin : (if (((ss.map V.str).length : Nat) : Int) < (room : Int) then (((ss.map V.str).length : Nat) : Int) else (room : Int)) = ((min room ss.length : Nat) : Int) := by split <;> omega
  refine ⟨_, rfl, _, rfl, a, _, rfl, .inl hS, _, _, rfl, ?_⟩
  simp only [hmin]
  refine ⟨_, rfl, by omega, by omega, fun D hD => ?_⟩
  rw [Int.toNat_natCast]
  refine comp_range (fun i zs σ H2 => (∃ v : Option V, σ = [some (.ref a), some (.int room), none, none, none, none, none, none, none, v]) ∧ (∃ ts : TupL, zs = refs ts ∧ AtT H2 ts ∧ ts.map (·.2) = (first i).map (kt ss 0)) ∧ i ≤ min room ss.length ∧ H2 D = some (.lst zs) ∧ Same H H2) ?_ ?_ ?_
  · exact ⟨⟨none, rfl⟩, ⟨[], rfl, (fun t h => by cases h), rfl⟩, Nat.zero_le _, upd_same, same_new hD _⟩
  · rintro i zs σ H2 hi ⟨⟨v, rfl⟩, ⟨ts, rfl, hat, hE⟩, hi', hD2, s2⟩
    have hil : i < ss.length := by omega
    have e0 : (0 + (i : Int)) = ((i : Nat) : Int) := by omega
    have hkey : atI (ss.map V.str) (0 + (i : Int)) = some (.str (ss.getD (0 + (i : Int)).toNat "")) := at_key (by omega) (by omega)
    refine ⟨_, rfl, _, rfl, a, _, _, _, rfl, rfl, s2.seq hS, hkey, _, rfl, (by show 3 ≤ sizeLine; decide), fun n hn0 => ?_⟩
    have sn := same_new hn0 (.tup [.int 0, .str (ss.getD (0 + (i : Int)).toNat ""), .int (0 + (i : Int))])
    have hD3 := sn _ _ hD2
    have nDn : D ≠ n := ne_of_none hD2 hn0
    have htl : ts.length = i := by have := congrArg List.length hE; rw [List.length_map, List.length_map, first_len] at this; exact this
    refine ⟨hD3, (by unfold refs; rw [List.length_map, htl]; exact small1000 (by omega)), ⟨_, rfl⟩, ⟨ts ++ [(n, kt ss 0 (0 + (i : Int)))], by unfold refs; rw [List.map_append]; rfl, fun t ht => ?_, ?_⟩, by omega, upd_same, fun b o hb => ?_⟩
    · rcases List.mem_append.mp ht with ht | ht
      · exact tup_keep hD3 _ _ _ (sn _ _ (hat t ht))
      · rw [List.mem_singleton.mp ht, upd_ne nDn.symm]; exact upd_same
    · rw [List.map_append, hE]
      unfold first upsI
      rw [List.range_succ, List.map_append, List.map_append]
      rfl
    · rw [upd_ne (ne_of_none hb hD)]; exact sn _ _ (s2 b o hb)
  rintro zs σ H2 ⟨⟨v, rfl⟩, ⟨ts0, rfl, hat0, hE0⟩, _, hD2, s2⟩
  have htl0 : ts0.length = min room ss.length := by have := congrArg List.length hE0; rw [List.length_map, List.length_map, first_len] at this; exact this
  have hrl0 : (((refs ts0).length : Nat) : Int) = ((min room ss.length : Nat) : Int) := by unfold refs; rw [List.length_map, htl0]
  refine ⟨_, rfl, D, _, rfl, .inl (SqL.of hD2), ?_⟩
  simp only [hrl0]
  refine ⟨(by show 0 ≤ sizeLine; decide), fun ru hru => ?_⟩
  have nDr : D ≠ ru := ne_of_none hD2 hru
  have s3 := s2.trans (same_new hru (.lst []))
  have at0 : At ss (min room ss.length) H (upd H2 ru (.lst [])) D ru ts0 [] (first (min room ss.length)) [] (min room ss.length) [] [] := by
    refine ⟨same_new hru _ _ _ hD2, AtT.mono hat0 (same_new hru _), ?_, upd_same, by unfold told; rw [if_pos rfl]; trivial, (fun h => by cases h), List.nodup_nil, (fun l h => by cases h), nDr, (fun h => by cases h), s3, hD, s2.free hru, by omega, fun n hn => ?_, ?_, (fun d h => by cases h), fun h => absurd rfl h, fun R h => h⟩
    · rw [hE0]; unfold inAll; rw [List.map_nil, List.append_nil]; exact .refl _
    · rw [List.append_nil] at hn; exact first_mem hn
    · unfold told; rw [if_pos rfl, first_len]; simp; omega
  generalize upd H2 ru (.lst []) = H3 at at0 ⊢
  refine ⟨fun m σ H4 => ∃ (ts : TupL) (ls : List Addr) (A B : List Int) (c : Nat) (gone : List Int) (done : List (List Int)) (v5 v6 v7 v8 : Option V), σ = [some (.ref a), some (.int room), some (.ref D), some (.int c), some (.ref ru), v5, v6, v7, v8] ∧ At ss (min room ss.length) H H4 D ru ts ls A B c gone done ∧ m = A.length + B.length + (ss.length - c), ⟨_, ts0, [], first (min room ss.length), [], min room ss.length, [], [], none, none, none, none, rfl, at0, rfl⟩, ?_⟩
  rintro m σ H4 ⟨ts, ls, A', B', c, gone', done', v5, v6, v7, v8, rfl, hAt', rfl⟩
  have htsl : ts.length = A'.length + B'.length := by have := hAt'.per.length_eq; unfold inAll at this; rw [List.length_map, List.length_append, List.length_map, List.length_map] at this; exact this
  refine ⟨_, rfl, D, _, rfl, .inl (SqL.of hAt'.ins), _, _, rfl, rfl, _, rfl, ite2 (fun d => ?_) (fun d => ?_)⟩
  · have d' : (0 : Int) < (((refs ts).length : Nat) : Int) := of_decide_eq_true d
    have hpos : 0 < ts.length := by unfold refs at d'; rw [List.length_map] at d'; omega
    obtain ⟨A, B, gone, done, hAt, hAne, hm⟩ : ∃ A B gone done, At ss (min room ss.length) H H4 D ru ts ls A B c gone done ∧ A ≠ [] ∧ A'.length + B'.length = A.length + B.length := by
      by_cases hA : A' = []
      · subst hA
        cases B' with
        | nil => exact absurd hpos (by rw [htsl]; decide)
        | cons b B => exact ⟨_, _, _, _, hAt'.switch, by simp, by simp⟩
      · exact ⟨A', B', gone', done', hAt', hA, rfl⟩
    refine ⟨_, fun σ' H' h => h, ?_⟩
    have hcnt := hAt.cnt
    rw [told_sum] at hcnt
    have hdl := (sum_lens done hAt.nem).1
    have tsne : ts ≠ [] := fun z => by rw [z] at hpos; simp at hpos
    refine ⟨_, rfl, D, ts, [true, false, true], rfl, SqL.of hAt.ins, hAt.att, tsne, in_shape hAt.per, fun t ht hmin' => ?_⟩
    obtain ⟨n, et, hleast⟩ := in_min hAt.per hAne (List.mem_map_of_mem (f := fun t : Addr × List Key => t.2) ht) (fun u hu => by
      obtain ⟨t', ht', rfl⟩ := List.mem_map.mp hu
      exact hmin' t' ht')
    have et' : t.2 = kt ss (done.length : Int) n := et
    have hnA := hleast.1
    have hn := hAt.mem n (List.mem_append_left _ hnA)
    have hcl := hAt.hc
    refine ⟨_, rfl, .inl ⟨rfl, _, SqL.of hAt.ins⟩, _, rfl, D, ts, t, rfl, rfl, hAt.ins, hAt.att, ht, by omega, fun i hi heq => ?_⟩
    have ttup := hAt.att t ht
    rw [et'] at ttup
    have ttup1 : (upd H4 D (.lst (refs (ts.eraseIdx i)))) t.1 = some (.tup [.int (done.length : Int), .str (ss.getD n.toNat ""), .int n]) := tup_keep hAt.ins _ _ _ ttup
    have ins1 : (upd H4 D (.lst (refs (ts.eraseIdx i)))) D = some (.lst (refs (ts.eraseIdx i))) := upd_same
    have att1 : AtT (upd H4 D (.lst (refs (ts.eraseIdx i)))) (ts.eraseIdx i) := fun u hu => tup_keep hAt.ins _ _ _ (hAt.att u (List.mem_of_mem_eraseIdx hu))
    have run1 : (upd H4 D (.lst (refs (ts.eraseIdx i)))) ru = some (.lst (ls.map V.ref)) := by rw [upd_ne hAt.ne.symm]; exact hAt.run
    have rd1 : Rd (upd H4 D (.lst (refs (ts.eraseIdx i)))) ls (told gone done) := Rd.mono (fun l hl' u hu => by rw [upd_ne (fun z : l = D => hAt.nil (z ▸ hl'))]; exact hu) hAt.rd
    have sm1 : Same H (upd H4 D (.lst (refs (ts.eraseIdx i)))) := fun b o hb => by rw [upd_ne (ne_of_none hb hAt.i0)]; exact hAt.sm b o hb
    have per1 : ((ts.eraseIdx i).map (·.2)).Perm (inAll ss (done.length : Int) (A.erase n) B) := by
      refine in_erase hAt.per hnA ?_
      have := (erase_perm ts i hi).symm.map (fun t : Addr × List Key => t.2)
      rw [List.map_cons, heq, et'] at this
      exact this
    have hel : (A.erase n).length + 1 = A.length := by
      have := List.length_erase_of_mem hnA
      have : 0 < A.length := List.length_pos_of_mem hnA
      omega
    have htl1 : (ts.eraseIdx i).length ≤ 60 := by
      have := per1.length_eq
      unfold inAll at this
      rw [List.length_map, List.length_append, List.length_map, List.length_map] at this
      omega
    generalize upd H4 D (.lst (refs (ts.eraseIdx i))) = H5 at ttup1 ins1 att1 run1 rd1 sm1 ⊢
    generalize ts.eraseIdx i = ts1 at ins1 att1 per1 htl1 ⊢
    refine ⟨_, rfl, t.1, _, rfl, SqT.of ttup1, rfl, _, _, rfl, _, _, rfl, _, _, rfl, rfl, ?_⟩
    have hlsl : ls.length = (told gone done).length := hAt.rd.len
    have hls60 : ls.length ≤ 60 := by have := (sum_lens _ (told_ne (gone := gone) hAt.nem)).1; rw [told_sum] at this; omega
    have hll : (((ls.map V.ref).length : Nat) : Int) = (ls.length : Int) := by rw [List.length_map]
    refine ⟨_, rfl, _, rfl, ru, _, rfl, .inl (SqL.of run1), rfl, _, rfl, ?_⟩
    by_cases hg : gone = []
    · have hlen2 : ls.length = done.length := by rw [hlsl, hg]; unfold told; rw [if_pos rfl]
      refine iteD (by rw [hll, hlen2]) ?_
      refine ⟨_, rfl, .inl ⟨rfl, _, SqL.of run1⟩, (by show 0 ≤ sizeLine; decide), fun nl hnl => ⟨ru, _, _, rfl, rfl, same_new hnl _ _ _ run1, (by rw [List.length_map]; exact small1000 (by omega)), ?_⟩⟩
      have snl := same_new hnl (.lst [])
      have nrn : ru ≠ nl := ne_of_none run1 hnl
      have nDn : D ≠ nl := ne_of_none ins1 hnl
      have hnll : nl ∉ ls := rd1.out hnl
      have ins2 : (upd (upd H5 nl (.lst [])) ru (.lst (ls.map V.ref ++ [.ref nl]))) D = some (.lst (refs ts1)) := by rw [upd_ne hAt.ne]; exact snl _ _ ins1
      have att2 : AtT (upd (upd H5 nl (.lst [])) ru (.lst (ls.map V.ref ++ [.ref nl]))) ts1 := fun u hu => tup_keep (snl _ _ run1) _ _ _ (snl _ _ (att1 u hu))
      have run2 : (upd (upd H5 nl (.lst [])) ru (.lst (ls.map V.ref ++ [.ref nl]))) ru = some (.lst ((ls ++ [nl]).map V.ref)) := by rw [upd_same, List.map_append]; rfl
      have rd2 : Rd (upd (upd H5 nl (.lst [])) ru (.lst (ls.map V.ref ++ [.ref nl]))) ls done := by
        have : told gone done = done := by unfold told; rw [if_pos hg]
        rw [this] at rd1
        exact Rd.mono (fun l hl' u hu => by rw [upd_ne (fun z : l = ru => hAt.rul (z ▸ hl'))]; exact snl _ _ hu) rd1
      have hl2 : (upd (upd H5 nl (.lst [])) ru (.lst (ls.map V.ref ++ [.ref nl]))) nl = some (.lst (gone.map V.int)) := by rw [upd_ne nrn.symm, hg]; exact upd_same
      have sm2 : Same H (upd (upd H5 nl (.lst [])) ru (.lst (ls.map V.ref ++ [.ref nl]))) := fun b o hb => by rw [upd_ne (ne_of_none hb hAt.r0)]; exact snl _ _ (sm1 b o hb)
      have rul2 : ru ∉ ls ++ [nl] := fun hm => by
        rcases List.mem_append.mp hm with hm | hm
        · exact hAt.rul hm
        · exact nrn (List.mem_singleton.mp hm)
      have nil2 : D ∉ ls ++ [nl] := fun hm => by
        rcases List.mem_append.mp hm with hm | hm
        · exact hAt.nil hm
        · exact nDn (List.mem_singleton.mp hm)
      have nd2 : (ls ++ [nl]).Nodup := by
        rw [List.nodup_append]
        exact ⟨hAt.nd, by simp, fun x hx y hy e => hnll (by rw [← List.mem_singleton.mp hy, ← e]; exact hx)⟩
      have fr2 : ∀ l ∈ ls ++ [nl], H l = none := fun l hl' => by
        rcases List.mem_append.mp hl' with hl' | hl'
        · exact hAt.fr l hl'
        · rw [List.mem_singleton.mp hl']; exact sm1.free hnl
      generalize upd (upd H5 nl (.lst [])) ru (.lst (ls.map V.ref ++ [.ref nl])) = H6 at ins2 att2 run2 rd2 hl2 sm2 ⊢
      have hms : ls.length = done.length := hlen2
      have hnd := List.nodup_append.mp nd2
      have hlms : nl ∉ ls := fun h => hnd.2.2 nl h nl (by simp) rfl
      have nrl : ru ≠ nl := fun z => rul2 (by rw [z]; simp)
      have nDl : D ≠ nl := fun z => nil2 (by rw [z]; simp)
      have hat3 : atI ((ls ++ [nl]).map V.ref) (done.length : Int) = some (.ref nl) := atI_nat (by rw [List.getElem?_map, List.getElem?_append_right (by omega), show done.length - ls.length = 0 by omega]; rfl)
      refine ⟨_, rfl, _, rfl, ru, _, _, _, rfl, rfl, SqL.of run2, hat3, ty_lst hl2, _, rfl, nl, _, _, rfl, rfl, hl2, (by rw [List.length_map]; exact small1000 (by omega)), ?_⟩
      have ins3 : (upd H6 nl (.lst (gone.map V.int ++ [.int n]))) D = some (.lst (refs ts1)) := by rw [upd_ne nDl]; exact ins2
      have att3 : AtT (upd H6 nl (.lst (gone.map V.int ++ [.int n]))) ts1 := fun u hu => tup_keep hl2 _ _ _ (att2 u hu)
      have run3 : (upd H6 nl (.lst (gone.map V.int ++ [.int n]))) ru = some (.lst ((ls ++ [nl]).map V.ref)) := by rw [upd_ne nrl]; exact run2
      have rd3 : Rd (upd H6 nl (.lst (gone.map V.int ++ [.int n]))) (ls ++ [nl]) (done ++ [gone ++ [n]]) := by
        refine Rd.app (Rd.mono (fun l hl' u hu => ?_) rd2) ⟨?_, trivial⟩
        · rw [upd_ne (fun z : l = nl => hlms (z ▸ hl'))]; exact hu
        · rw [upd_same, List.map_append]; rfl
      have sm3 : Same H (upd H6 nl (.lst (gone.map V.int ++ [.int n]))) := fun b o hb => by rw [upd_ne (ne_of_none hb (fr2 nl (by simp)))]; exact sm2 b o hb
      generalize upd H6 nl (.lst (gone.map V.int ++ [.int n])) = H7 at ins3 att3 run3 rd3 sm3 ⊢
      refine ⟨_, rfl, _, rfl, a, _, rfl, .inl (sm3.seq hS), _, _, rfl, rfl, _, rfl, ite2 (fun d2 => ?_) (fun d2 => ?_)⟩
      · have hcN : c < ss.length := by have := of_decide_eq_true d2; omega
        have hkc : atI (ss.map V.str) (c : Int) = some (.str (ss.getD (c : Int).toNat "")) := at_key (by omega) (by omega)
        refine ⟨_, rfl, .inl ⟨rfl, _, SqL.of ins3⟩, _, rfl, _, rfl, _, rfl, _, rfl, a, _, _, _, rfl, rfl, sm3.seq hS, hkc, (done.length : Int), ss.getD n.toNat "", ss.getD (c : Int).toNat "", rfl, getD_small hlen _, getD_small hlen _, fun hlt => ?_, fun hlt => ?_⟩
        · refine ⟨_, rfl, _, rfl, a, _, _, _, rfl, rfl, sm3.seq hS, hkc, _, rfl, (by show 3 ≤ sizeLine; decide), fun tn htn => ⟨D, _, _, rfl, rfl, same_new htn _ _ _ ins3, (by unfold refs; rw [List.length_map]; exact small1000 (by omega)), ?_⟩⟩
          have stn := same_new htn (.tup [.int (done.length : Int), .str (ss.getD (c : Int).toNat ""), .int (c : Int)])
          have nDt : D ≠ tn := ne_of_none ins3 htn
          have per4 : ((ts1 ++ [(tn, kt ss (done.length : Int) (c : Int))]).map (·.2)).Perm (inAll ss (done.length : Int) (A.erase n ++ [(c : Int)]) (B)) := by
            rw [List.map_append]
            unfold inAll
            refine (per1.append_right _).trans ?_
            unfold inAll
            rw [List.map_append, List.append_assoc, List.append_assoc]
            exact List.Perm.append_left _ List.perm_append_comm
          refine ⟨_, rfl, _, _, rfl, rfl, ?_⟩
          have hcc : ((c : Int) + 1) = ((c + 1 : Nat) : Int) := by omega
          simp only [hcc]
          refine ⟨_, by simp only [List.length_append, List.length_singleton]; omega, ts1 ++ [(tn, kt ss (done.length : Int) (c : Int))], ls ++ [nl], A.erase n ++ [(c : Int)], B, c + 1, gone ++ [n], done, _, _, _, _, rfl, ⟨by rw [upd_same]; unfold refs; rw [List.map_append]; rfl, fun u hu => by
            rcases List.mem_append.mp hu with hu | hu
            · exact tup_keep (stn _ _ ins3) _ _ _ (stn _ _ (att3 u hu))
            · rw [List.mem_singleton.mp hu, upd_ne nDt.symm]; exact upd_same, per4, by rw [upd_ne hAt.ne.symm]; exact stn _ _ run3, by rw [told_add]; exact Rd.mono (fun l hl' u hu => by rw [upd_ne (fun z : l = D => nil2 (z ▸ hl'))]; exact stn _ _ hu) rd3, rul2, nd2, fr2, hAt.ne, nil2, fun b o hb => by rw [upd_ne (ne_of_none hb hAt.i0)]; exact stn _ _ (sm3 b o hb), hAt.i0, hAt.r0, by omega, fun z hz => by
            have : z ∈ A ++ B ∨ z = (c : Int) := by
              simp only [List.mem_append, List.mem_singleton] at hz ⊢
              rcases hz with hz | hz
              · rcases hz with hz | hz
                · exact .inl (.inl (List.mem_of_mem_erase hz))
                · exact .inr hz
              · exact .inl (.inr hz)
            rcases this with h | h
            · have := hAt.mem z h; omega
            · omega, by rw [told_sum, List.length_append, List.length_singleton]; simp only [List.length_append, List.length_singleton]; omega, hAt.nem, fun _ _ => by simp, fun R hR => hAt.res R (.stepA hleast hcN hlt hR)⟩, rfl⟩
        · refine ⟨_, rfl, _, rfl, a, _, _, _, rfl, rfl, sm3.seq hS, hkc, _, rfl, (by show 3 ≤ sizeLine; decide), fun tn htn => ⟨D, _, _, rfl, rfl, same_new htn _ _ _ ins3, (by unfold refs; rw [List.length_map]; exact small1000 (by omega)), ?_⟩⟩
          have stn := same_new htn (.tup [.int ((done.length : Int) + 1), .str (ss.getD (c : Int).toNat ""), .int (c : Int)])
          have nDt : D ≠ tn := ne_of_none ins3 htn
          have per4 : ((ts1 ++ [(tn, kt ss ((done.length : Int) + 1) (c : Int))]).map (·.2)).Perm (inAll ss (done.length : Int) (A.erase n) (B ++ [(c : Int)])) := by
            rw [List.map_append]
            unfold inAll
            refine (per1.append_right _).trans ?_
            unfold inAll
            rw [List.map_append, List.append_assoc]
            exact .refl _
          refine ⟨_, rfl, _, _, rfl, rfl, ?_⟩
          have hcc : ((c : Int) + 1) = ((c + 1 : Nat) : Int) := by omega
          simp only [hcc]
          refine ⟨_, by simp only [List.length_append, List.length_singleton]; omega, ts1 ++ [(tn, kt ss ((done.length : Int) + 1) (c : Int))], ls ++ [nl], A.erase n, B ++ [(c : Int)], c + 1, gone ++ [n], done, _, _, _, _, rfl, ⟨by rw [upd_same]; unfold refs; rw [List.map_append]; rfl, fun u hu => by
            rcases List.mem_append.mp hu with hu | hu
            · exact tup_keep (stn _ _ ins3) _ _ _ (stn _ _ (att3 u hu))
            · rw [List.mem_singleton.mp hu, upd_ne nDt.symm]; exact upd_same, per4, by rw [upd_ne hAt.ne.symm]; exact stn _ _ run3, by rw [told_add]; exact Rd.mono (fun l hl' u hu => by rw [upd_ne (fun z : l = D => nil2 (z ▸ hl'))]; exact stn _ _ hu) rd3, rul2, nd2, fr2, hAt.ne, nil2, fun b o hb => by rw [upd_ne (ne_of_none hb hAt.i0)]; exact stn _ _ (sm3 b o hb), hAt.i0, hAt.r0, by omega, fun z hz => by
            have : z ∈ A ++ B ∨ z = (c : Int) := by
              simp only [List.mem_append, List.mem_singleton] at hz ⊢
              rcases hz with hz | hz
              · exact .inl (.inl (List.mem_of_mem_erase hz))
              · rcases hz with hz | hz
                · exact .inl (.inr hz)
                · exact .inr hz
            rcases this with h | h
            · have := hAt.mem z h; omega
            · omega, by rw [told_sum, List.length_append, List.length_singleton]; simp only [List.length_append, List.length_singleton]; omega, hAt.nem, fun _ _ => by simp, fun R hR => hAt.res R (.stepB hleast hcN hlt hR)⟩, rfl⟩
      · have hcN : ¬ c < ss.length := fun z => d2 (decide_eq_true (by omega))
        refine ⟨_, by omega, ts1, ls ++ [nl], A.erase n, B, c, gone ++ [n], done, _, _, _, _, rfl, ⟨ins3, att3, per1, run3, by rw [told_add]; exact rd3, rul2, nd2, fr2, hAt.ne, nil2, sm3, hAt.i0, hAt.r0, by omega, fun z hz => hAt.mem z (by
          rcases List.mem_append.mp hz with hz | hz
          · exact List.mem_append_left _ (List.mem_of_mem_erase hz)
          · exact List.mem_append_right _ hz), by rw [told_sum, List.length_append, List.length_singleton]; omega, hAt.nem, fun _ _ => by simp, fun R hR => hAt.res R (.stepN hleast hcN hR)⟩, rfl⟩
    · have et2 : told gone done = done ++ [gone] := by unfold told; rw [if_neg hg]
      have hlen2 : ls.length = done.length + 1 := by rw [hlsl, et2, List.length_append]; rfl
      refine iteDN (fun z => by have z' := V.int.inj z; rw [hll, hlen2] at z'; omega) ?_
      rw [et2] at rd1
      obtain ⟨ms, nl, rfl, rd2, hl2⟩ := rd1.split
      have ins2 := ins1
      have att2 := att1
      have run2 := run1
      have sm2 := sm1
      have rul2 := hAt.rul
      have nil2 := hAt.nil
      have nd2 := hAt.nd
      have fr2 := hAt.fr
      have hms : ms.length = done.length := by rw [List.length_append, List.length_singleton] at hlen2; omega
      have hnd := List.nodup_append.mp nd2
      have hlms : nl ∉ ms := fun h => hnd.2.2 nl h nl (by simp) rfl
      have nrl : ru ≠ nl := fun z => rul2 (by rw [z]; simp)
      have nDl : D ≠ nl := fun z => nil2 (by rw [z]; simp)
      have hat3 : atI ((ms ++ [nl]).map V.ref) (done.length : Int) = some (.ref nl) := atI_nat (by rw [List.getElem?_map, List.getElem?_append_right (by omega), show done.length - ms.length = 0 by omega]; rfl)
      refine ⟨_, rfl, _, rfl, ru, _, _, _, rfl, rfl, SqL.of run2, hat3, ty_lst hl2, _, rfl, nl, _, _, rfl, rfl, hl2, (by rw [List.length_map]; exact small1000 (by omega)), ?_⟩
      have ins3 : (upd H5 nl (.lst (gone.map V.int ++ [.int n]))) D = some (.lst (refs ts1)) := by rw [upd_ne nDl]; exact ins2
      have att3 : AtT (upd H5 nl (.lst (gone.map V.int ++ [.int n]))) ts1 := fun u hu => tup_keep hl2 _ _ _ (att2 u hu)
      have run3 : (upd H5 nl (.lst (gone.map V.int ++ [.int n]))) ru = some (.lst ((ms ++ [nl]).map V.ref)) := by rw [upd_ne nrl]; exact run2
      have rd3 : Rd (upd H5 nl (.lst (gone.map V.int ++ [.int n]))) (ms ++ [nl]) (done ++ [gone ++ [n]]) := by
        refine Rd.app (Rd.mono (fun l hl' u hu => ?_) rd2) ⟨?_, trivial⟩
        · rw [upd_ne (fun z : l = nl => hlms (z ▸ hl'))]; exact hu
        · rw [upd_same, List.map_append]; rfl
      have sm3 : Same H (upd H5 nl (.lst (gone.map V.int ++ [.int n]))) := fun b o hb => by rw [upd_ne (ne_of_none hb (fr2 nl (by simp)))]; exact sm2 b o hb
      generalize upd H5 nl (.lst (gone.map V.int ++ [.int n])) = H7 at ins3 att3 run3 rd3 sm3 ⊢
      refine ⟨_, rfl, _, rfl, a, _, rfl, .inl (sm3.seq hS), _, _, rfl, rfl, _, rfl, ite2 (fun d2 => ?_) (fun d2 => ?_)⟩
      · have hcN : c < ss.length := by have := of_decide_eq_true d2; omega
        have hkc : atI (ss.map V.str) (c : Int) = some (.str (ss.getD (c : Int).toNat "")) := at_key (by omega) (by omega)
        refine ⟨_, rfl, .inl ⟨rfl, _, SqL.of ins3⟩, _, rfl, _, rfl, _, rfl, _, rfl, a, _, _, _, rfl, rfl, sm3.seq hS, hkc, (done.length : Int), ss.getD n.toNat "", ss.getD (c : Int).toNat "", rfl, getD_small hlen _, getD_small hlen _, fun hlt => ?_, fun hlt => ?_⟩
        · refine ⟨_, rfl, _, rfl, a, _, _, _, rfl, rfl, sm3.seq hS, hkc, _, rfl, (by show 3 ≤ sizeLine; decide), fun tn htn => ⟨D, _, _, rfl, rfl, same_new htn _ _ _ ins3, (by unfold refs; rw [List.length_map]; exact small1000 (by omega)), ?_⟩⟩
          have stn := same_new htn (.tup [.int (done.length : Int), .str (ss.getD (c : Int).toNat ""), .int (c : Int)])
          have nDt : D ≠ tn := ne_of_none ins3 htn
          have per4 : ((ts1 ++ [(tn, kt ss (done.length : Int) (c : Int))]).map (·.2)).Perm (inAll ss (done.length : Int) (A.erase n ++ [(c : Int)]) (B)) := by
            rw [List.map_append]
            unfold inAll
            refine (per1.append_right _).trans ?_
            unfold inAll
            rw [List.map_append, List.append_assoc, List.append_assoc]
            exact List.Perm.append_left _ List.perm_append_comm
          refine ⟨_, rfl, _, _, rfl, rfl, ?_⟩
          have hcc : ((c : Int) + 1) = ((c + 1 : Nat) : Int) := by omega
          simp only [hcc]
          refine ⟨_, by simp only [List.length_append, List.length_singleton]; omega, ts1 ++ [(tn, kt ss (done.length : Int) (c : Int))], ms ++ [nl], A.erase n ++ [(c : Int)], B, c + 1, gone ++ [n], done, _, _, _, _, rfl, ⟨by rw [upd_same]; unfold refs; rw [List.map_append]; rfl, fun u hu => by
            rcases List.mem_append.mp hu with hu | hu
            · exact tup_keep (stn _ _ ins3) _ _ _ (stn _ _ (att3 u hu))
            · rw [List.mem_singleton.mp hu, upd_ne nDt.symm]; exact upd_same, per4, by rw [upd_ne hAt.ne.symm]; exact stn _ _ run3, by rw [told_add]; exact Rd.mono (fun l hl' u hu => by rw [upd_ne (fun z : l = D => nil2 (z ▸ hl'))]; exact stn _ _ hu) rd3, rul2, nd2, fr2, hAt.ne, nil2, fun b o hb => by rw [upd_ne (ne_of_none hb hAt.i0)]; exact stn _ _ (sm3 b o hb), hAt.i0, hAt.r0, by omega, fun z hz => by
            have : z ∈ A ++ B ∨ z = (c : Int) := by
              simp only [List.mem_append, List.mem_singleton] at hz ⊢
              rcases hz with hz | hz
              · rcases hz with hz | hz
                · exact .inl (.inl (List.mem_of_mem_erase hz))
                · exact .inr hz
              · exact .inl (.inr hz)
            rcases this with h | h
            · have := hAt.mem z h; omega
            · omega, by rw [told_sum, List.length_append, List.length_singleton]; simp only [List.length_append, List.length_singleton]; omega, hAt.nem, fun _ _ => by simp, fun R hR => hAt.res R (.stepA hleast hcN hlt hR)⟩, rfl⟩
        · refine ⟨_, rfl, _, rfl, a, _, _, _, rfl, rfl, sm3.seq hS, hkc, _, rfl, (by show 3 ≤ sizeLine; decide), fun tn htn => ⟨D, _, _, rfl, rfl, same_new htn _ _ _ ins3, (by unfold refs; rw [List.length_map]; exact small1000 (by omega)), ?_⟩⟩
          have stn := same_new htn (.tup [.int ((done.length : Int) + 1), .str (ss.getD (c : Int).toNat ""), .int (c : Int)])
          have nDt : D ≠ tn := ne_of_none ins3 htn
          have per4 : ((ts1 ++ [(tn, kt ss ((done.length : Int) + 1) (c : Int))]).map (·.2)).Perm (inAll ss (done.length : Int) (A.erase n) (B ++ [(c : Int)])) := by
            rw [List.map_append]
            unfold inAll
            refine (per1.append_right _).trans ?_
            unfold inAll
            rw [List.map_append, List.append_assoc]
            exact .refl _
          refine ⟨_, rfl, _, _, rfl, rfl, ?_⟩
          have hcc : ((c : Int) + 1) = ((c + 1 : Nat) : Int) := by omega
          simp only [hcc]
          refine ⟨_, by simp only [List.length_append, List.length_singleton]; omega, ts1 ++ [(tn, kt ss ((done.length : Int) + 1) (c : Int))], ms ++ [nl], A.erase n, B ++ [(c : Int)], c + 1, gone ++ [n], done, _, _, _, _, rfl, ⟨by rw [upd_same]; unfold refs; rw [List.map_append]; rfl, fun u hu => by
            rcases List.mem_append.mp hu with hu | hu
            · exact tup_keep (stn _ _ ins3) _ _ _ (stn _ _ (att3 u hu))
            · rw [List.mem_singleton.mp hu, upd_ne nDt.symm]; exact upd_same, per4, by rw [upd_ne hAt.ne.symm]; exact stn _ _ run3, by rw [told_add]; exact Rd.mono (fun l hl' u hu => by rw [upd_ne (fun z : l = D => nil2 (z ▸ hl'))]; exact stn _ _ hu) rd3, rul2, nd2, fr2, hAt.ne, nil2, fun b o hb => by rw [upd_ne (ne_of_none hb hAt.i0)]; exact stn _ _ (sm3 b o hb), hAt.i0, hAt.r0, by omega, fun z hz => by
            have : z ∈ A ++ B ∨ z = (c : Int) := by
              simp only [List.mem_append, List.mem_singleton] at hz ⊢
              rcases hz with hz | hz
              · exact .inl (.inl (List.mem_of_mem_erase hz))
              · rcases hz with hz | hz
                · exact .inl (.inr hz)
                · exact .inr hz
            rcases this with h | h
            · have := hAt.mem z h; omega
            · omega, by rw [told_sum, List.length_append, List.length_singleton]; simp only [List.length_append, List.length_singleton]; omega, hAt.nem, fun _ _ => by simp, fun R hR => hAt.res R (.stepB hleast hcN hlt hR)⟩, rfl⟩
      · have hcN : ¬ c < ss.length := fun z => d2 (decide_eq_true (by omega))
        refine ⟨_, by omega, ts1, ms ++ [nl], A.erase n, B, c, gone ++ [n], done, _, _, _, _, rfl, ⟨ins3, att3, per1, run3, by rw [told_add]; exact rd3, rul2, nd2, fr2, hAt.ne, nil2, sm3, hAt.i0, hAt.r0, by omega, fun z hz => hAt.mem z (by
          rcases List.mem_append.mp hz with hz | hz
          · exact List.mem_append_left _ (List.mem_of_mem_erase hz)
          · exact List.mem_append_right _ hz), by rw [told_sum, List.length_append, List.length_singleton]; omega, hAt.nem, fun _ _ => by simp, fun R hR => hAt.res R (.stepN hleast hcN hR)⟩, rfl⟩
  · have d' : ¬ (0 : Int) < (((refs ts).length : Nat) : Int) := fun z => d (decide_eq_true z)
    have h0 : ts.length = 0 := by unfold refs at d'; rw [List.length_map] at d'; omega
    have hA0 : A' = [] := List.eq_nil_of_length_eq_zero (by omega)
    have hB0 : B' = [] := List.eq_nil_of_length_eq_zero (by omega)
    subst hA0 hB0
    have hcnt := hAt'.cnt
    obtain ⟨b1, b2⟩ := sum_lens _ (told_ne (gone := gone') hAt'.nem)
    refine ⟨_, rfl, q ru ls (told gone' done') H4 hAt'.r0 hAt'.run hAt'.rul hAt'.fr hAt'.rd (hAt'.res _ ?_) (by omega) (fun d hd => by have := b2 d hd; omega) hAt'.sm⟩
    unfold told
    cases gone' with
    | nil => rw [if_pos rfl]; exact .stop0
    | cons g gr => rw [if_neg (by simp)]; exact .stop
def Ris (ss : List Str) (ns : List Int) : Prop := ∀ (p : Nat) (x y : Int), ns[p]? = some x → ns[p + 1]? = some y → lexB (kk (ks ss x)) (kk (ks ss y)) = true
def spIsRun (K : PySem.W.Frag) : Sp := fun vs H Q _ => ∃ (a t : Addr) (ss : List Str) (ns : List Int) (b : Bool), vs = [.ref a, .ref t] ∧ SqL K H a (ss.map V.str) ∧ H t = some (.lst (ns.map V.int)) ∧ ns.length ≤ 100 ∧ (∀ n ∈ ns, 0 ≤ n ∧ n < ss.length) ∧ (b = true ↔ ns ≠ [] ∧ Ris ss ns) ∧ ∀ H', Same H H' → Q (.bl b) H'
theorem ok_is_run (T : Tops K mg) (f_is_number : Df P w K mg base 1 "is_number" ["thing"] spNum) : Df P w K mg base 2 "is_run" ["things", "thing"] (spIsRun K) := by
  refine T.t_is_run.df sc_is_run (fun vs H Q E h => ?_) (fun cdv f A outer s H vs Q E hr h => ?_)
  · obtain ⟨a, t, ss, ns, b, rfl, _⟩ := h
    rfl
  obtain ⟨a, t, ss, ns, b, rfl, hS, ht, h100, hmem, hbb, qq⟩ := h
  have q1 : ns ≠ [] ∧ Ris ss ns → ∀ H', Same H H' → Q (.bl true) H' := fun g => (hbb.mpr g) ▸ qq
  have q2 : ¬ (ns ≠ [] ∧ Ris ss ns) → ∀ H', Same H H' → Q (.bl false) H' := fun g => (show b = false by cases hb : b with | false => rfl | true => exact absurd (hbb.mp hb) g) ▸ qq
  refine ⟨_, (@pss_cons _ _ _ _ _ (@ps_if _ _ _ _ _ _ _ _ (@PW.pt _ _ _ (@pw_or _ _ _ _ _ _ _ (@pt_not _ _ _ _ (@pt_val _ _ _ (@pe_callB _ _ _ _ _ _ _ _ _ (isiQ K) (by rfl) T.b.n_isinstance boot_isinstance (@pa_cons _ _ _ _ _ (@pv _ 1 _ _ (by rfl) (Or.inl rfl) (by decide) (by decide)) (@pa_cons _ _ _ _ _ (@pe_ty _ _ _ _ T.b.n_list boot_list (by rfl) (by decide) (by decide)) (@pa_nil _) (by rfl)) (by rfl)) (by decide) (by decide) (by rfl) (by rfl)) (by intro _; rfl))) (@pw_or1 _ _ _ _ (@pt_cmpR _ _ _ _ _ _ _ _ op_eq (@pe_callB _ _ _ _ _ _ _ _ _ (lenQ K) (by rfl) T.b.n_len PySem.boot_len (@pa_cons _ _ _ _ _ (@pv _ 1 _ _ (by rfl) (Or.inl rfl) (by decide) (by decide)) (@pa_nil _) (by rfl)) (by decide) (by decide) (by rfl) (by rfl)) (@pe_int _ _ _ _) (nomark _))))) (@pss_one _ _ _ (@ps_ret _ _ _ _ (@pe_bl _ _ _ _))) (@pss_nil _)) (@pss_cons _ _ _ _ _ (@ps_for _ _ _ _ _ _ _ _ PassesOwn.never rfl (@iL _ K _ _ _ (@pv _ 1 _ _ (by rfl) (Or.inl rfl) (by decide) (by decide)) (by rfl)) (@pg_name _ _ 2 _ sc_is_run.nd rfl (Or.inl rfl) (by first | exact .inl rfl | exact .inr rfl)) (@pss_one _ _ _ (@ps_if _ _ _ _ _ _ _ _ (@PW.pt _ _ _ (@pw_or _ _ _ _ _ _ _ (@pt_not _ _ _ _ (@pt_val _ _ _ (@pe_df _ _ _ _ _ _ _ _ _ _ _ f_is_number hr (@pa_cons _ _ _ _ _ (@pv _ 2 _ _ (by rfl) (Or.inl rfl) (by decide) (by decide)) (@pa_nil _) (by rfl)) (by first | decide | exact Nat.le_refl _ | omega) (by rfl) (by decide) (by rfl) (by rfl)) (by intro _; rfl))) (@pw_or _ _ _ _ _ _ _ (@pt_cmpR _ _ _ _ _ _ _ _ op_lt (@pv _ 2 _ _ (by rfl) (Or.inl rfl) (by decide) (by decide)) (@pe_int _ _ _ _) (nomark _)) (@pw_or1 _ _ _ _ (@pt_cmpR _ _ _ _ _ _ _ _ op_ge (@pv _ 2 _ _ (by rfl) (Or.inl rfl) (by decide) (by decide)) (@pe_callB _ _ _ _ _ _ _ _ _ (lenQ K) (by rfl) T.b.n_len PySem.boot_len (@pa_cons _ _ _ _ _ (@pv _ 0 _ _ (by rfl) (Or.inl rfl) (by decide) (by decide)) (@pa_nil _) (by rfl)) (by decide) (by decide) (by rfl) (by rfl)) (nomark _)))))) (@pss_one _ _ _ (@ps_ret _ _ _ _ (@pe_bl _ _ _ _))) (@pss_nil _))) (by intro _; rfl)) (@pss_cons _ _ _ _ _ (@ps_for _ _ _ _ _ _ _ _ PassesOwn.never rfl (@pi_range2 _ _ _ _ _ _ _ rfl T.b.n_range (@pa_cons _ _ _ _ _ (@pe_int _ _ _ _) (@pa_cons _ _ _ _ _ (@pe_callB _ _ _ _ _ _ _ _ _ (lenQ K) (by rfl) T.b.n_len PySem.boot_len (@pa_cons _ _ _ _ _ (@pv _ 1 _ _ (by rfl) (Or.inl rfl) (by decide) (by decide)) (@pa_nil _) (by rfl)) (by decide) (by decide) (by rfl) (by rfl)) (@pa_nil _) (by rfl)) (by rfl)) (by rfl) (by rfl)) (@pg_name _ _ 3 _ sc_is_run.nd rfl (Or.inl rfl) (by first | exact .inl rfl | exact .inr rfl)) (@pss_one _ _ _ (@ps_if _ _ _ _ _ _ _ _ (@pt_cmpR _ _ _ _ _ _ _ _ (geK K hr) (@pe_tup _ _ _ _ _ (@pa_cons _ _ _ _ _ (@pe_ix _ _ _ _ _ _ _ (ixL K) (@pv _ 0 _ _ (by rfl) (Or.inl rfl) (by decide) (by decide)) (@pe_ix _ _ _ _ _ _ _ (ixL K) (@pv _ 1 _ _ (by rfl) (Or.inl rfl) (by decide) (by decide)) (@pe_op _ _ _ _ _ _ _ _ op_sub (@pv _ 3 _ _ (by rfl) (Or.inl rfl) (by decide) (by decide)) (@pe_int _ _ _ _)) (fun _ _ => rfl)) (fun _ _ => rfl)) (@pa_cons _ _ _ _ _ (@pe_ix _ _ _ _ _ _ _ (ixL K) (@pv _ 1 _ _ (by rfl) (Or.inl rfl) (by decide) (by decide)) (@pe_op _ _ _ _ _ _ _ _ op_sub (@pv _ 3 _ _ (by rfl) (Or.inl rfl) (by decide) (by decide)) (@pe_int _ _ _ _)) (fun _ _ => rfl)) (@pa_nil _) (by rfl)) (by rfl))) (@pe_tup _ _ _ _ _ (@pa_cons _ _ _ _ _ (@pe_ix _ _ _ _ _ _ _ (ixL K) (@pv _ 0 _ _ (by rfl) (Or.inl rfl) (by decide) (by decide)) (@pe_ix _ _ _ _ _ _ _ (ixL K) (@pv _ 1 _ _ (by rfl) (Or.inl rfl) (by decide) (by decide)) (@pv _ 3 _ _ (by rfl) (Or.inl rfl) (by decide) (by decide)) (fun _ _ => rfl)) (fun _ _ => rfl)) (@pa_cons _ _ _ _ _ (@pe_ix _ _ _ _ _ _ _ (ixL K) (@pv _ 1 _ _ (by rfl) (Or.inl rfl) (by decide) (by decide)) (@pv _ 3 _ _ (by rfl) (Or.inl rfl) (by decide) (by decide)) (fun _ _ => rfl)) (@pa_nil _) (by rfl)) (by rfl))) (nomark _)) (@pss_one _ _ _ (@ps_ret _ _ _ _ (@pe_bl _ _ _ _))) (@pss_nil _))) (by intro _; rfl)) (@pss_one _ _ _ (@ps_ret _ _ _ _ (@pe_bl _ _ _ _)))))), ?_⟩
  have hl : (((ns.map V.int).length : Nat) : Int) = (ns.length : Int) := by rw [List.length_map]
  refine ⟨_, rfl, _, "list", _, _, rfl, .lst ht, k_lst_lst K, _, rfl, iteF ⟨_, rfl, t, _, rfl, .inl (SqL.of ht), rfl, _, rfl, ?_⟩⟩
  refine ite2 (fun d => ?_) (fun d => ?_)
  · have d' := V.int.inj (of_decide_eq_true d)
    have h0 : ns = [] := List.eq_nil_of_length_eq_zero (by omega)
    exact q2 (fun z => z.1 h0) H (Same.refl H)
  have hne : ns ≠ [] := fun z => d (by rw [z]; rfl)
  refine ⟨_, rfl, t, rfl, ⟨_, SqL.of ht⟩, ?_⟩
  refine for_list (K := K) (a := t) (xs := ns.map V.int) (fun i σ H2 => ∃ v2 : Option V, σ = [some (.ref a), some (.ref t), v2, none] ∧ H2 = H) ⟨_, rfl, rfl⟩ (fun _ _ _ _ ⟨_, _, e⟩ => by rw [e]; exact SqL.of ht) ?_ ?_
  · rintro i x σ H2 hx ⟨v2, rfl, rfl⟩
    rw [List.getElem?_map] at hx
    cases hz : ns[i]? with
    | none => rw [hz] at hx; cases hx
    | some n =>
      rw [hz] at hx
      cases hx
      have hn := hmem n (List.mem_of_getElem? hz)
      refine ⟨_, rfl, .inl ⟨n, rfl, _, rfl, iteF ⟨_, rfl, _, _, rfl, rfl, _, rfl, iteDN (by omega) ⟨_, rfl, _, rfl, a, _, rfl, .inl hS, _, _, rfl, rfl, _, rfl, iteDN (by rw [List.length_map]; omega) ⟨_, rfl, rfl⟩⟩⟩⟩⟩
  rintro σ H2 ⟨v2, rfl, rfl⟩
  have hpos : 0 < ns.length := List.length_pos_iff.mpr hne
  refine ⟨_, rfl, t, _, rfl, .inl (SqL.of ht), _, _, rfl, ⟨by omega, by omega, by rw [hl]; omega, by rw [hl]; omega⟩, ?_⟩
  refine for_range (fun i σ H3 => ∃ v2 v3 : Option V, σ = [some (.ref a), some (.ref t), v2, v3] ∧ Same H2 H3 ∧ ∀ (p : Nat) (x y : Int), p < i → ns[p]? = some x → ns[p + 1]? = some y → lexB (kk (ks ss x)) (kk (ks ss y)) = true) ⟨_, _, rfl, Same.refl _, fun p x y h => absurd h (by omega)⟩ ?_ ?_
  · rintro i σ H3 hi ⟨v2, v3, rfl, s3, hris⟩
    rw [hl] at hi
    have hi1 : i + 1 < ns.length := by omega
    obtain ⟨x, hx⟩ : ∃ x, ns[i]? = some x := ⟨_, List.getElem?_eq_getElem (by omega)⟩
    obtain ⟨y, hy⟩ : ∃ y, ns[i + 1]? = some y := ⟨_, List.getElem?_eq_getElem hi1⟩
    have hx' : atI (ns.map V.int) (1 + (i : Int) - 1) = some (.int x) := by rw [show (1 + (i : Int) - 1) = ((i : Nat) : Int) by omega]; exact atI_nat (by rw [List.getElem?_map, hx]; rfl)
    have hy' : atI (ns.map V.int) (1 + (i : Int)) = some (.int y) := by rw [show (1 + (i : Int)) = ((i + 1 : Nat) : Int) by omega]; exact atI_nat (by rw [List.getElem?_map, hy]; rfl)
    have mx := hmem x (List.mem_of_getElem? hx)
    have my := hmem y (List.mem_of_getElem? hy)
    have kx := at_key (ss := ss) mx.1 mx.2
    have ky := at_key (ss := ss) my.1 my.2
    have ht3 := s3 _ _ ht
    have hS3 := s3.seq hS
    refine ⟨_, rfl, _, rfl, _, rfl, _, _, rfl, rfl, t, _, _, _, rfl, rfl, SqL.of ht3, hx', a, _, _, _, rfl, rfl, hS3, kx, _, rfl, _, rfl, _, _, rfl, rfl, t, _, _, _, rfl, rfl, SqL.of ht3, hx', (by show 2 ≤ sizeLine; decide), fun n1 h1 => ?_⟩
    have s4 := same_new h1 (.tup [.str (ss.getD x.toNat ""), .int x])
    have ht4 := s4 _ _ ht3
    have hS4 := s4.seq hS3
    have e4 : (upd H3 n1 (.tup [.str (ss.getD x.toNat ""), .int x])) n1 = some (.tup [.str (ss.getD x.toNat ""), .int x]) := upd_same
    have s24 := s3.trans s4
    generalize upd H3 n1 (.tup [.str (ss.getD x.toNat ""), .int x]) = H4 at ht4 hS4 e4 s24 ⊢
    refine ⟨_, rfl, _, rfl, _, rfl, t, _, _, _, rfl, rfl, SqL.of ht4, hy', a, _, _, _, rfl, rfl, hS4, ky, _, rfl, _, rfl, t, _, _, _, rfl, rfl, SqL.of ht4, hy', (by show 2 ≤ sizeLine; decide), fun n2 h2 => ?_⟩
    have s5 := same_new h2 (.tup [.str (ss.getD y.toNat ""), .int y])
    have e5 : (upd H4 n2 (.tup [.str (ss.getD y.toNat ""), .int y])) n2 = some (.tup [.str (ss.getD y.toNat ""), .int y]) := upd_same
    refine ⟨n1, n2, kk (ks ss x), kk (ks ss y), rfl, rfl, SqT.of (s5 _ _ e4), SqT.of e5, rfl, _, rfl, ?_⟩
    have s25 := s24.trans s5
    cases hb : lexB (kk (ks ss x)) (kk (ks ss y)) with
    | true =>
      refine iteF ⟨_, _, rfl, s25, fun p x' y' hp hx2 hy2 => ?_⟩
      by_cases e : p = i
      · subst e
        rw [hx] at hx2
        rw [hy] at hy2
        cases hx2
        cases hy2
        exact hb
      · exact hris p x' y' (by omega) hx2 hy2
    | false =>
      refine iteT (q2 (fun z => ?_) _ s25)
      have := z.2 i x y hx hy
      rw [hb] at this
      cases this
  · rintro σ H3 ⟨v2, v3, rfl, s3, hris⟩
    refine q1 ⟨hne, fun p x y hx hy => hris p x y ?_ hx hy⟩ _ s3
    have := (List.getElem?_eq_some_iff.mp hy).1
    omega
theorem ris_snoc {ss : List Str} {g : List Int} {n : Int} (h : Ris ss g) (hl : ∀ x, g.getLast? = some x → lexB (kk (ks ss x)) (kk (ks ss n)) = true) : Ris ss (g ++ [n]) := fun p x y hx hy => by
  have hpl := (List.getElem?_eq_some_iff.mp hy).1
  rw [List.length_append, List.length_singleton] at hpl
  rw [List.getElem?_append_left (by omega)] at hx
  by_cases e : p + 1 < g.length
  · rw [List.getElem?_append_left e] at hy
    exact h p x y hx hy
  · rw [List.getElem?_append_right (by omega), show p + 1 - g.length = 0 by omega] at hy
    cases hy
    refine hl x ?_
    rw [List.getLast?_eq_getElem?, show g.length - 1 = p by omega]
    exact hx
theorem lex_after {ss : List Str} {n : Int} {c : Nat} (hn : n < c) (h : ¬ ltK ss (c : Int) n) : lexB (kk (ks ss n)) (kk (ks ss (c : Int))) = true := by
  cases hb : lexB (kk (ks ss n)) (kk (ks ss (c : Int))) with
  | true => rfl
  | false =>
    have h2 : lexB (kk (ks ss (c : Int))) (kk (ks ss n)) = false := by
      unfold kk
      rw [lexB_cons]
      by_cases e : (Sum.inr (ks ss (c : Int)).1 : Key) = Sum.inr (ks ss n).1
      · rw [if_pos e, lexB_cons, if_neg (by intro z; have := Sum.inl.inj z; show False; simp only [ks] at this; omega)]
        exact decide_eq_false (by show ¬ ((c : Int) < n); omega)
      · rw [if_neg e]
        exact decide_eq_false h
    have := kk_inj (lexB_total _ _ hb h2)
    have := congrArg Prod.snd this
    simp only [ks] at this
    omega
def GoodRun (ss : List Str) (d : List Int) : Prop := d ≠ [] ∧ Ris ss d ∧ ∀ n ∈ d, 0 ≤ n ∧ n < ss.length
theorem least_up {ss : List Str} {A B : List Int} {n : Int} (hl : Least ss A n) (nd : (A ++ B).Nodup) : ∀ a ∈ A.erase n, lexB (kk (ks ss n)) (kk (ks ss a)) = true := fun a ha => by
  have hA := (List.nodup_append.mp nd).1
  have hne : a ≠ n := ((List.Nodup.mem_erase_iff hA).mp ha).1
  cases hb : lexB (kk (ks ss n)) (kk (ks ss a)) with
  | true => rfl
  | false => exact absurd (congrArg Prod.snd (kk_inj (lexB_total _ _ (hl.2 a (List.mem_of_mem_erase ha)) hb))) hne
theorem nd_erase {A B : List Int} {n : Int} (nd : (A ++ B).Nodup) : (A.erase n ++ B).Nodup := by
  have h := List.nodup_append.mp nd
  exact List.nodup_append.mpr ⟨h.1.erase n, h.2.1, fun x hx y hy => h.2.2 x (List.mem_of_mem_erase hx) y hy⟩
theorem res_runs {ss : List Str} {A B : List Int} {c : Nat} {gone : List Int} {done R : List (List Int)} (h : Res ss A B c gone done R) : (A ++ B).Nodup → (∀ n ∈ A ++ B, 0 ≤ n ∧ n < (c : Int)) → c ≤ ss.length → (∀ d ∈ done, GoodRun ss d) → Ris ss gone → (∀ n ∈ gone, 0 ≤ n ∧ n < ss.length) → (∀ x, gone.getLast? = some x → ∀ a ∈ A, lexB (kk (ks ss x)) (kk (ks ss a)) = true) → (A = [] → B ≠ [] → gone ≠ []) → ∀ d ∈ R, GoodRun ss d := by
  induction h with
  | stop0 => intro _ _ _ hd _ _ _ _; exact hd
  | stop =>
    intro _ _ _ hd hr hm _ _ d hdm
    rcases List.mem_append.mp hdm with h | h
    · exact hd d h
    · rw [List.mem_singleton.mp h]; exact ⟨by simp, hr, hm⟩
  | switch _ ih =>
    intro nd mem hc hd hr hm _ go
    refine ih (by simpa using nd) (by simpa using mem) hc (fun d hdm => ?_) (fun p x y hx => by simp at hx) (fun n hn => by cases hn) (fun x hx => by simp at hx) (fun z => by cases z)
    rcases List.mem_append.mp hdm with h | h
    · exact hd d h
    · rw [List.mem_singleton.mp h]; exact ⟨go rfl (by simp), hr, hm⟩
  | stepN l hcN _ ih =>
    intro nd mem hc hd hr hm last go
    have hn := mem _ (List.mem_append_left _ l.1)
    refine ih (nd_erase nd) (fun m hm' => mem m ?_) hc hd (ris_snoc hr (fun x hx => last x hx _ l.1)) (fun m hm' => ?_) (fun x hx => ?_) (fun _ _ => by simp)
    · rcases List.mem_append.mp hm' with h | h
      · exact List.mem_append_left _ (List.mem_of_mem_erase h)
      · exact List.mem_append_right _ h
    · rcases List.mem_append.mp hm' with h | h
      · exact hm m h
      · rw [List.mem_singleton.mp h]; omega
    · rw [List.getLast?_concat] at hx
      cases hx
      exact least_up l nd
  | @stepA A B c gone done R n l hcN hlt _ ih =>
    intro nd mem hc hd hr hm last go
    have hn := mem _ (List.mem_append_left _ l.1)
    refine ih ?_ (fun m hm' => ?_) hcN hd (ris_snoc hr (fun x hx => last x hx _ l.1)) (fun m hm' => ?_) (fun x hx => ?_) (fun _ _ => by simp)
    · have e := List.nodup_append.mp (nd_erase (n := n) nd)
      refine List.nodup_append.mpr ⟨List.nodup_append.mpr ⟨e.1, by simp, fun x hx y hy => ?_⟩, e.2.1, fun x hx y hy => ?_⟩
      · have := mem x (List.mem_append_left _ (List.mem_of_mem_erase hx)); rw [List.mem_singleton.mp hy]; omega
      · rcases List.mem_append.mp hx with hx | hx
        · exact e.2.2 x hx y hy
        · have := mem y (List.mem_append_right _ hy); rw [List.mem_singleton.mp hx]; omega
    · have : m ∈ A ++ B ∨ m = (c : Int) := by
        simp only [List.mem_append, List.mem_singleton] at hm' ⊢
        rcases hm' with (h | h) | h
        · exact .inl (.inl (List.mem_of_mem_erase h))
        · exact .inr h
        · exact .inl (.inr h)
      rcases this with h | h
      · have := mem m h; omega
      · omega
    · rcases List.mem_append.mp hm' with h | h
      · exact hm m h
      · rw [List.mem_singleton.mp h]; omega
    · rw [List.getLast?_concat] at hx
      cases hx
      intro a ha
      rcases List.mem_append.mp ha with ha | ha
      · exact least_up l nd a ha
      · rw [List.mem_singleton.mp ha]; exact lex_after hn.2 hlt
  | @stepB A B c gone done R n l hcN hlt _ ih =>
    intro nd mem hc hd hr hm last go
    have hn := mem _ (List.mem_append_left _ l.1)
    refine ih ?_ (fun m hm' => ?_) hcN hd (ris_snoc hr (fun x hx => last x hx _ l.1)) (fun m hm' => ?_) (fun x hx => ?_) (fun _ _ => by simp)
    · have e := List.nodup_append.mp (nd_erase (n := n) nd)
      refine List.nodup_append.mpr ⟨e.1, List.nodup_append.mpr ⟨e.2.1, by simp, fun x hx y hy => ?_⟩, fun x hx y hy => ?_⟩
      · have := mem x (List.mem_append_right _ hx); rw [List.mem_singleton.mp hy]; omega
      · rcases List.mem_append.mp hy with hy | hy
        · exact e.2.2 x hx y hy
        · have := mem x (List.mem_append_left _ (List.mem_of_mem_erase hx)); rw [List.mem_singleton.mp hy]; omega
    · have : m ∈ A ++ B ∨ m = (c : Int) := by
        simp only [List.mem_append, List.mem_singleton] at hm' ⊢
        rcases hm' with h | h | h
        · exact .inl (.inl (List.mem_of_mem_erase h))
        · exact .inl (.inr h)
        · exact .inr h
      rcases this with h | h
      · have := mem m h; omega
      · omega
    · rcases List.mem_append.mp hm' with h | h
      · exact hm m h
      · rw [List.mem_singleton.mp h]; omega
    · rw [List.getLast?_concat] at hx
      cases hx
      exact least_up l nd
theorem first_nd (n : Nat) : (first n).Nodup := by
  unfold first upsI
  refine List.Pairwise.map _ (fun a b h => ?_) List.nodup_range
  intro z
  exact h (by omega)
theorem runs_good {ss : List Str} {k : Nat} (hk : k ≤ ss.length) {R : List (List Int)} (h : Res ss (first k) [] k [] [] R) : ∀ d ∈ R, GoodRun ss d :=
  res_runs h (by rw [List.append_nil]; exact first_nd k) (by rw [List.append_nil]; exact fun n hn => first_mem hn) hk (fun d h => by cases h) (fun p x y hx => by simp at hx) (fun n h => by cases h) (fun x hx => by simp at hx) (fun _ z => absurd rfl z)
/-LEVEL 8-/
theorem at_cut {α : Type} {R : List α} {i : Nat} {e : α} {tail : List α} (hi : i < R.length) (h : R = R.take i ++ e :: tail) : R[i]? = some e := by
  have h2 : (R.take i ++ e :: tail)[i]? = some e := by
    rw [List.getElem?_append_right (by rw [List.length_take]; omega), List.length_take, show i - min i R.length = 0 by omega]; rfl
  rw [← h] at h2; exact h2
theorem res_head {ss : List Str} {A B : List Int} {c : Nat} {gone : List Int} {done R : List (List Int)} (h : Res ss A B c gone done R) : (A = [] ∧ B = [] ∧ gone = [] ∧ R = done) ∨ ∃ rest tail, R = done ++ (gone ++ rest) :: tail := by
  induction h with
  | stop0 => exact .inl ⟨rfl, rfl, rfl, rfl⟩
  | stop => exact .inr ⟨[], [], by simp⟩
  | switch _ ih =>
    rcases ih with ⟨z, _⟩ | ⟨rest, tail, e⟩
    · cases z
    · exact .inr ⟨[], rest :: tail, by rw [e]; simp⟩
  | @stepN A B c gone done R n _ _ _ ih =>
    rcases ih with ⟨_, _, z, _⟩ | ⟨rest, tail, e⟩
    · simp at z
    · exact .inr ⟨n :: rest, tail, by rw [e]; simp⟩
  | @stepA A B c gone done R n _ _ _ _ ih =>
    rcases ih with ⟨_, _, z, _⟩ | ⟨rest, tail, e⟩
    · simp at z
    · exact .inr ⟨n :: rest, tail, by rw [e]; simp⟩
  | @stepB A B c gone done R n _ _ _ _ ih =>
    rcases ih with ⟨_, _, z, _⟩ | ⟨rest, tail, e⟩
    · simp at z
    · exact .inr ⟨n :: rest, tail, by rw [e]; simp⟩
theorem res_snoc {ss : List Str} {A B : List Int} {c : Nat} {gone : List Int} {done R : List (List Int)} {n : Int} (h : Res ss A B c (gone ++ [n]) done R) : ∃ rest tail, R = done ++ (gone ++ n :: rest) :: tail := by
  rcases res_head h with ⟨_, _, z, _⟩ | ⟨rest, tail, e⟩
  · simp at z
  · exact ⟨rest, tail, by rw [e]; simp⟩
theorem take_at {d rest : List Int} {j : Nat} {n m : Int} (hj : d[j]? = some n) (h : d = d.take j ++ m :: rest) : n = m := by
  have hl := (List.getElem?_eq_some_iff.mp hj).1
  have := at_cut hl h
  rw [hj] at this
  exact Option.some.inj this
theorem take_next {d : List Int} {j : Nat} {n : Int} (hj : d[j]? = some n) : d.take j ++ [n] = d.take (j + 1) := by
  rw [List.take_add_one, hj]; rfl
/-- the walk goes on -/
theorem res_go {ss : List Str} {A B : List Int} {c : Nat} {d : List Int} {R : List (List Int)} {i j : Nat} {n : Int} (hi : R[i]? = some d) (hj : d[j]? = some n) (h : Res ss A B c (d.take j) (R.take i) R) :
    Least ss A n ∧ ((¬ c < ss.length ∧ Res ss (A.erase n) B c (d.take (j + 1)) (R.take i) R) ∨ (c < ss.length ∧ ¬ ltK ss c n ∧ Res ss (A.erase n ++ [(c : Int)]) B (c + 1) (d.take (j + 1)) (R.take i) R) ∨
      (c < ss.length ∧ ltK ss c n ∧ Res ss (A.erase n) (B ++ [(c : Int)]) (c + 1) (d.take (j + 1)) (R.take i) R)) := by
  have hil := (List.getElem?_eq_some_iff.mp hi).1
  have hjl := (List.getElem?_eq_some_iff.mp hj).1
  have key : ∀ {A' B' : List Int} {c' : Nat} {m : Int}, Res ss A' B' c' (d.take j ++ [m]) (R.take i) R → n = m := fun {A' B' c' m} h => by
    obtain ⟨rest, tail, e⟩ := res_snoc h
    have := at_cut hil e
    rw [hi] at this
    exact take_at hj (Option.some.inj this)
  have stp : ∀ {tail : List (List Int)}, R = R.take i ++ d.take j :: tail → False := fun {tail} e => by
    have := at_cut hil e
    rw [hi] at this
    have := congrArg List.length (Option.some.inj this)
    rw [List.length_take] at this
    omega
  have nxt := take_next hj
  generalize hg : d.take j = gone at h key stp nxt
  generalize hd : R.take i = done at h key stp
  cases h with
  | stop0 =>
    have := congrArg List.length hd
    rw [List.length_take] at this
    omega
  | stop => exact (stp rfl).elim
  | switch h =>
    rcases res_head h with ⟨z, _⟩ | ⟨rest, tail, e⟩
    · cases z
    · exact (stp (by rw [e, List.append_assoc]; rfl)).elim
  | stepN l hc h =>
    obtain rfl := key h
    exact ⟨l, .inl ⟨hc, by rw [← nxt]; exact h⟩⟩
  | stepA l hc hk h =>
    obtain rfl := key h
    exact ⟨l, .inr (.inl ⟨hc, hk, by rw [← nxt]; exact h⟩)⟩
  | stepB l hc hk h =>
    obtain rfl := key h
    exact ⟨l, .inr (.inr ⟨hc, hk, by rw [← nxt]; exact h⟩)⟩
/-- a run's end -/
theorem res_end {ss : List Str} {A B : List Int} {c : Nat} {d : List Int} {R : List (List Int)} {i : Nat} (hi : R[i]? = some d) (h : Res ss A B c d (R.take i) R) :
    (A = [] ∧ B = [] ∧ i + 1 = R.length) ∨ (A = [] ∧ i + 1 < R.length ∧ Res ss B [] c [] (R.take (i + 1)) R) := by
  have hil := (List.getElem?_eq_some_iff.mp hi).1
  have nxt : R.take i ++ [d] = R.take (i + 1) := by rw [List.take_add_one, hi]; rfl
  have key : ∀ {A' B' : List Int} {c' : Nat} {m : Int}, Res ss A' B' c' (d ++ [m]) (R.take i) R → False := fun {A' B' c' m} h => by
    obtain ⟨rest, tail, e⟩ := res_snoc h
    have := at_cut hil e
    rw [hi] at this
    have := congrArg List.length (Option.some.inj this)
    simp at this
  have hlen : (R.take i).length = i := by rw [List.length_take]; omega
  generalize hd : R.take i = done at h key nxt hlen
  cases h with
  | stop0 =>
    have := congrArg List.length hd
    rw [List.length_take] at this
    omega
  | stop => exact .inl ⟨rfl, rfl, by rw [List.length_append, hlen]; rfl⟩
  | switch h =>
    rw [nxt] at h
    refine .inr ⟨rfl, ?_, h⟩
    rcases res_head h with ⟨z, _⟩ | ⟨rest, tail, e⟩
    · cases z
    · have := congrArg List.length e
      rw [List.length_append, List.length_take, List.length_cons] at this
      omega
  | stepN l hc h => exact (key h).elim
  | stepA l hc hk h => exact (key h).elim
  | stepB l hc hk h => exact (key h).elim
theorem erase_len {A : List Int} {n : Int} (h : n ∈ A) : (A.erase n).length + 1 = A.length := by
  have := List.length_erase_of_mem h
  have := List.length_pos_of_mem h
  omega
/-- each run but the last is as long as there is room -/
theorem res_lens {ss : List Str} {room : Nat} {A B : List Int} {c : Nat} {gone : List Int} {done R : List (List Int)} (h : Res ss A B c gone done R) : (c < ss.length → A.length + B.length = room) → (room ≤ gone.length + A.length ∨ (¬ c < ss.length ∧ B = [])) → (∀ d ∈ done, room ≤ d.length) → ∀ d ∈ R.dropLast, room ≤ d.length := by
  induction h with
  | stop0 => intro _ _ hd d h; exact hd d (List.dropLast_subset _ h)
  | stop => intro _ _ hd d h; rw [List.dropLast_concat] at h; exact hd d h
  | switch _ ih =>
    intro f g hd
    refine ih (by simpa using f) ?_ fun d h => ?_
    · rename_i c _ _ _ _
      by_cases hc : c < ss.length
      · exact .inl (by have := f hc; simp at this ⊢; omega)
      · exact .inr ⟨hc, rfl⟩
    · rcases List.mem_append.mp h with h | h
      · exact hd d h
      · rw [List.mem_singleton.mp h]
        rcases g with g | ⟨_, z⟩
        · simpa using g
        · cases z
  | stepN l hc _ ih =>
    intro f g hd
    have := erase_len l.1
    refine ih (fun z => absurd z hc) ?_ hd
    rcases g with g | g
    · exact .inl (by rw [List.length_append, List.length_singleton]; omega)
    · exact .inr g
  | stepA l hc _ _ ih =>
    intro f g hd
    have := erase_len l.1
    have f' := f hc
    refine ih (fun _ => by rw [List.length_append, List.length_singleton]; omega) ?_ hd
    rcases g with g | g
    · exact .inl (by rw [List.length_append, List.length_append, List.length_singleton]; simp; omega)
    · exact absurd hc g.1
  | stepB l hc _ _ ih =>
    intro f g hd
    have := erase_len l.1
    have f' := f hc
    refine ih (fun _ => by rw [List.length_append, List.length_singleton]; omega) ?_ hd
    rcases g with g | g
    · exact .inl (by rw [List.length_append, List.length_singleton]; omega)
    · exact absurd hc g.1
theorem runs_lens {ss : List Str} {room : Nat} {R : List (List Int)} (h : Res ss (first (min room ss.length)) [] (min room ss.length) [] [] R) : ∀ d ∈ R.dropLast, room ≤ d.length := by
  refine res_lens h (fun z => by rw [first_len]; simp; omega) ?_ (fun d h => by cases h)
  rw [first_len]
  by_cases hc : min room ss.length < ss.length
  · exact .inl (by simp; omega)
  · exact .inr ⟨hc, rfl⟩
theorem res_few {ss : List Str} {A B : List Int} {c : Nat} {gone : List Int} {done R : List (List Int)} (h : Res ss A B c gone done R) : B = [] → ¬ c < ss.length → done = [] → R.length ≤ 1 := by
  induction h with
  | stop0 => intro _ _ h; rw [h]; exact Nat.zero_le _
  | stop => intro _ _ h; rw [h]; exact Nat.le_refl _
  | switch _ _ => intro z; cases z
  | stepN _ _ _ ih => intro a b c; exact ih a b c
  | stepA _ hc _ _ _ => intro _ z; exact absurd hc z
  | stepB _ hc _ _ _ => intro _ z; exact absurd hc z
/-- each number is in a run -/
theorem res_all {ss : List Str} {room : Nat} (hr : 1 ≤ room) {A B : List Int} {c : Nat} {gone : List Int} {done R : List (List Int)} (h : Res ss A B c gone done R) : (c < ss.length → A.length + B.length = room) → (∀ m : Int, 0 ≤ m → m < c → (∃ d ∈ done, m ∈ d) ∨ m ∈ gone ∨ m ∈ A ∨ m ∈ B) → ∀ m : Int, 0 ≤ m → m < ss.length → ∃ d ∈ R, m ∈ d := by
  induction h with
  | stop0 =>
    intro f g m h0 hm
    rename_i c _
    by_cases hc : c < ss.length
    · have := f hc; simp at this; omega
    · rcases g m h0 (by omega) with h | h | h | h
      · exact h
      · cases h
      · cases h
      · cases h
  | stop =>
    intro f g m h0 hm
    rename_i c _ _ _
    by_cases hc : c < ss.length
    · have := f hc; simp at this; omega
    · rcases g m h0 (by omega) with ⟨d, h, h'⟩ | h | h | h
      · exact ⟨d, List.mem_append_left _ h, h'⟩
      · exact ⟨_, List.mem_append_right _ (List.mem_singleton.mpr rfl), h⟩
      · cases h
      · cases h
  | switch _ ih =>
    intro f g
    refine ih (by simpa using f) fun m h0 hm => ?_
    rcases g m h0 hm with ⟨d, h, h'⟩ | h | h | h
    · exact .inl ⟨d, List.mem_append_left _ h, h'⟩
    · exact .inl ⟨_, List.mem_append_right _ (List.mem_singleton.mpr rfl), h⟩
    · cases h
    · exact .inr (.inr (.inl h))
  | @stepN A B c gone done R n l hc _ ih =>
    intro f g
    refine ih (fun z => absurd z hc) fun m h0 hm => ?_
    rcases g m h0 hm with h | h | h | h
    · exact .inl h
    · exact .inr (.inl (List.mem_append_left _ h))
    · by_cases e : m = n
      · exact .inr (.inl (List.mem_append_right _ (by rw [e]; simp)))
      · exact .inr (.inr (.inl ((List.mem_erase_of_ne e).mpr h)))
    · exact .inr (.inr (.inr h))
  | @stepA A B c gone done R n l hc _ _ ih =>
    intro f g
    have := erase_len l.1
    have f' := f hc
    refine ih (fun _ => by rw [List.length_append, List.length_singleton]; omega) fun m h0 hm => ?_
    by_cases e : m = (c : Int)
    · exact .inr (.inr (.inl (List.mem_append_right _ (by rw [e]; simp))))
    rcases g m h0 (by omega) with h | h | h | h
    · exact .inl h
    · exact .inr (.inl (List.mem_append_left _ h))
    · by_cases e : m = n
      · exact .inr (.inl (List.mem_append_right _ (by rw [e]; simp)))
      · exact .inr (.inr (.inl (List.mem_append_left _ ((List.mem_erase_of_ne e).mpr h))))
    · exact .inr (.inr (.inr h))
  | @stepB A B c gone done R n l hc _ _ ih =>
    intro f g
    have := erase_len l.1
    have f' := f hc
    refine ih (fun _ => by rw [List.length_append, List.length_singleton]; omega) fun m h0 hm => ?_
    by_cases e : m = (c : Int)
    · exact .inr (.inr (.inr (List.mem_append_right _ (by rw [e]; simp))))
    rcases g m h0 (by omega) with h | h | h | h
    · exact .inl h
    · exact .inr (.inl (List.mem_append_left _ h))
    · by_cases e : m = n
      · exact .inr (.inl (List.mem_append_right _ (by rw [e]; simp)))
      · exact .inr (.inr (.inl ((List.mem_erase_of_ne e).mpr h)))
    · exact .inr (.inr (.inr (List.mem_append_left _ h)))
theorem mem_first {k : Nat} {m : Int} (h0 : 0 ≤ m) (h : m < k) : m ∈ first k := by
  unfold first upsI
  exact List.mem_map.mpr ⟨m.toNat, List.mem_range.mpr (by omega), by omega⟩
theorem runs_all {ss : List Str} {room : Nat} (hr : 1 ≤ room) {R : List (List Int)} (h : Res ss (first (min room ss.length)) [] (min room ss.length) [] [] R) : ∀ m : Int, 0 ≤ m → m < ss.length → ∃ d ∈ R, m ∈ d :=
  res_all hr h (fun z => by rw [first_len]; simp; omega) fun m h0 hm => .inr (.inr (.inl (mem_first h0 hm)))
theorem ltK_of {ss : List Str} {a n x : Int} (h : ltK ss a n) (g : ¬ ltK ss x n) : ltK ss a x := by
  unfold ltK at *
  rw [lt_ord] at *
  have h1 := ordC_neg (cds (ss.getD x.toNat "")) (cds (ss.getD n.toNat ""))
  have h2 := ordC_neg (cds (ss.getD a.toNat "")) (cds (ss.getD x.toNat ""))
  have h4 := ordC_neg (cds (ss.getD a.toNat "")) (cds (ss.getD n.toNat ""))
  have h3 := ordC_trans (cds (ss.getD n.toNat "")) (cds (ss.getD x.toNat "")) (cds (ss.getD a.toNat "")) (by omega)
  omega
theorem least_le {ss : List Str} {A : List Int} {n x : Int} (h : Least ss A n) (hx : x ∈ A) : ¬ ltK ss x n := fun z => by
  have := h.2 x hx
  unfold kk at this
  rw [lexB_cons] at this
  by_cases e : (Sum.inr (ks ss x).1 : Key) = Sum.inr (ks ss n).1
  · have e' : ss.getD x.toNat "" = ss.getD n.toNat "" := Sum.inr.inj e
    unfold ltK at z
    rw [e', lt_ord, ordC_self] at z
    omega
  · rw [if_neg e] at this
    exact of_decide_eq_false this z
theorem ltK_ne {ss : List Str} {a b : Int} (h : ltK ss a b) : ss.getD a.toNat "" ≠ ss.getD b.toNat "" := fun e => by
  unfold ltK at h
  rw [e, lt_ord, ordC_self] at h
  omega
/-- like keys: none of the later ones has the lesser number -/
def Apart (ss : List Str) (d e : List Int) : Prop := ∀ b ∈ d, ∀ a ∈ e, a < b → ss.getD a.toNat "" ≠ ss.getD b.toNat ""
theorem res_like {ss : List Str} {A B : List Int} {c : Nat} {gone : List Int} {done R : List (List Int)} (h : Res ss A B c gone done R) : (∀ n ∈ A ++ B, n < (c : Int)) → (∀ n ∈ gone, n < (c : Int)) → (∀ d ∈ done, ∀ n ∈ d, n < (c : Int)) → (∀ a ∈ B, ∀ x ∈ A, ltK ss a x) → Apart ss gone B → (∀ d ∈ done, Apart ss d (gone ++ A ++ B)) → done.Pairwise (Apart ss) → R.Pairwise (Apart ss) := by
  induction h with
  | stop0 => intro _ _ _ _ _ _ h; exact h
  | stop =>
    intro _ _ _ _ _ j2 j1
    refine List.pairwise_append.mpr ⟨j1, List.pairwise_singleton _ _, fun d hd e he => ?_⟩
    rw [List.mem_singleton.mp he]
    have := j2 d hd
    simpa using this
  | switch _ ih =>
    intro m1 m2 m3 j4 j3 j2 j1
    refine ih (by simpa using m1) (fun n h => by cases h) (fun d hd => ?_) (fun a h => by cases h) (fun b h => by cases h) (fun d hd => ?_) (List.pairwise_append.mpr ⟨j1, List.pairwise_singleton _ _, fun d hd e he => ?_⟩)
    · rcases List.mem_append.mp hd with hd | hd
      · exact m3 d hd
      · rw [List.mem_singleton.mp hd]; exact m2
    · rcases List.mem_append.mp hd with hd | hd
      · intro b hb a ha
        exact j2 d hd b hb a (by simp at ha ⊢; exact .inr ha)
      · rw [List.mem_singleton.mp hd]
        intro b hb a ha
        exact j3 b hb a (by simpa using ha)
    · rw [List.mem_singleton.mp he]
      intro b hb a ha
      exact j2 d hd b hb a (by simp; exact .inl ha)
  | @stepN A B c gone done R n l hc _ ih =>
    intro m1 m2 m3 j4 j3 j2 j1
    refine ih (fun x hx => m1 x ?_) (fun x hx => ?_) m3 (fun a ha x hx => j4 a ha x (List.mem_of_mem_erase hx)) (fun b hb a ha hlt => ?_) (fun d hd b hb a ha => j2 d hd b hb a ?_) j1
    · rcases List.mem_append.mp hx with h | h
      · exact List.mem_append_left _ (List.mem_of_mem_erase h)
      · exact List.mem_append_right _ h
    · rcases List.mem_append.mp hx with h | h
      · exact m2 x h
      · rw [List.mem_singleton.mp h]; exact m1 n (List.mem_append_left _ l.1)
    · rcases List.mem_append.mp hb with h | h
      · exact j3 b h a ha hlt
      · rw [List.mem_singleton.mp h]; exact ltK_ne (j4 a ha n l.1)
    · simp only [List.mem_append, List.mem_singleton] at ha ⊢
      rcases ha with ((h | h) | h) | h
      · exact .inl (.inl h)
      · exact .inl (.inr (h ▸ l.1))
      · exact .inl (.inr (List.mem_of_mem_erase h))
      · exact .inr h
  | @stepA A B c gone done R n l hc hk _ ih =>
    intro m1 m2 m3 j4 j3 j2 j1
    have mA : ∀ x ∈ A, x < (c : Int) := fun x h => m1 x (List.mem_append_left _ h)
    have mB : ∀ x ∈ B, x < (c : Int) := fun x h => m1 x (List.mem_append_right _ h)
    refine ih (fun x hx => ?_) (fun x hx => ?_) (fun d hd x hx => by have := m3 d hd x hx; omega) (fun a ha x hx => ?_) (fun b hb a ha hlt => ?_) (fun d hd b hb a ha hlt => ?_) j1
    · simp only [List.mem_append, List.mem_singleton] at hx
      rcases hx with (h | h) | h
      · have := mA x (List.mem_of_mem_erase h); omega
      · omega
      · have := mB x h; omega
    · rcases List.mem_append.mp hx with h | h
      · have := m2 x h; omega
      · rw [List.mem_singleton.mp h]; have := mA n l.1; omega
    · rcases List.mem_append.mp hx with h | h
      · exact j4 a ha x (List.mem_of_mem_erase h)
      · rw [List.mem_singleton.mp h]; exact ltK_of (j4 a ha n l.1) hk
    · rcases List.mem_append.mp hb with h | h
      · exact j3 b h a ha hlt
      · rw [List.mem_singleton.mp h]; exact ltK_ne (j4 a ha n l.1)
    · have hbc := m3 d hd b hb
      have hac : a ≠ (c : Int) := fun z => by omega
      refine j2 d hd b hb a ?_ hlt
      simp only [List.mem_append, List.mem_singleton] at ha ⊢
      rcases ha with ((h | h) | h | h) | h
      · exact .inl (.inl h)
      · exact .inl (.inr (h ▸ l.1))
      · exact .inl (.inr (List.mem_of_mem_erase h))
      · exact absurd h hac
      · exact .inr h
  | @stepB A B c gone done R n l hc hk _ ih =>
    intro m1 m2 m3 j4 j3 j2 j1
    have mA : ∀ x ∈ A, x < (c : Int) := fun x h => m1 x (List.mem_append_left _ h)
    have mB : ∀ x ∈ B, x < (c : Int) := fun x h => m1 x (List.mem_append_right _ h)
    refine ih (fun x hx => ?_) (fun x hx => ?_) (fun d hd x hx => by have := m3 d hd x hx; omega) (fun a ha x hx => ?_) (fun b hb a ha hlt => ?_) (fun d hd b hb a ha hlt => ?_) j1
    · simp only [List.mem_append, List.mem_singleton] at hx
      rcases hx with h | h | h
      · have := mA x (List.mem_of_mem_erase h); omega
      · have := mB x h; omega
      · omega
    · rcases List.mem_append.mp hx with h | h
      · have := m2 x h; omega
      · rw [List.mem_singleton.mp h]; have := mA n l.1; omega
    · rcases List.mem_append.mp ha with h | h
      · exact j4 a h x (List.mem_of_mem_erase hx)
      · rw [List.mem_singleton.mp h]; exact ltK_of hk (least_le l (List.mem_of_mem_erase hx))
    · have hbc : b < (c : Int) := by
        rcases List.mem_append.mp hb with h | h
        · exact m2 b h
        · rw [List.mem_singleton.mp h]; exact mA n l.1
      rcases List.mem_append.mp ha with ha | ha
      · rcases List.mem_append.mp hb with h | h
        · exact j3 b h a ha hlt
        · rw [List.mem_singleton.mp h]; exact ltK_ne (j4 a ha n l.1)
      · have := List.mem_singleton.mp ha; omega
    · have hbc := m3 d hd b hb
      have hac : a ≠ (c : Int) := fun z => by omega
      refine j2 d hd b hb a ?_ hlt
      simp only [List.mem_append, List.mem_singleton] at ha ⊢
      rcases ha with ((h | h) | h) | h | h
      · exact .inl (.inl h)
      · exact .inl (.inr (h ▸ l.1))
      · exact .inl (.inr (List.mem_of_mem_erase h))
      · exact .inr h
      · exact absurd h hac
theorem runs_like {ss : List Str} {k : Nat} {R : List (List Int)} (h : Res ss (first k) [] k [] [] R) : R.Pairwise (Apart ss) :=
  res_like h (by rw [List.append_nil]; exact fun n hn => (first_mem hn).2) (fun n h => by cases h) (fun d h => by cases h) (fun a h => by cases h) (fun b h => by cases h) (fun d h => by cases h) List.Pairwise.nil
def keyD : Key → PyData
  | .inl i => .int i
  | .inr s => .str s
def tD (k : List Key) : PyData := .tuple (k.map keyD)
theorem dv_keys {K : PySem.W.Frag} {H : Hp} : ∀ ks : List Key, DVs K H (ks.map kV) (ks.map keyD)
  | [] => .nil
  | .inl i :: r => .cons (.int i) (dv_keys r)
  | .inr s :: r => .cons (.str s) (dv_keys r)
theorem dv_tups {K : PySem.W.Frag} {H : Hp} : ∀ ts : TupL, AtT H ts → DVs K H (refs ts) (ts.map fun t => tD t.2)
  | [], _ => .nil
  | t :: r, h => .cons (.tup (SqT.of (h t (by simp))) (dv_keys t.2)) (dv_tups r fun x hx => h x (List.mem_cons_of_mem _ hx))
theorem getD_az {ss : List Str} (h : ∀ s ∈ ss, AZ s) (k : Nat) : AZ (ss.getD k "") := by
  rw [List.getD_eq_getElem?_getD]
  cases e : ss[k]? with
  | none => exact AZ.nil
  | some s => exact h s (List.mem_of_getElem? e)
theorem lay_kts {ss : List Str} (haz : ∀ s ∈ ss, AZ s) : ∀ ts : TupL, (∀ t ∈ ts, ∃ r n, t.2 = kt ss r n) → PyData.canLayAll0 (ts.map fun t => tD t.2) = true ∧ PyData.depthAll (ts.map fun t => tD t.2) ≤ 1
  | [], _ => ⟨rfl, by simp [PyData.depthAll]⟩
  | t :: r, h => by
    obtain ⟨a, b⟩ := lay_kts haz r fun x hx => h x (List.mem_cons_of_mem _ hx)
    obtain ⟨q, n, e⟩ := h t (by simp)
    have e2 : tD t.2 = .tuple [.int q, .str (ss.getD n.toNat ""), .int n] := by rw [e]; rfl
    have hz := (getD_az haz n.toNat).ok
    generalize ss.getD n.toNat "" = z at e2 hz
    refine ⟨by simp [PyData.canLayAll0, PyData.canLay0, e2, hz, a], ?_⟩
    rw [List.map_cons, e2]
    simp only [PyData.depthAll, PyData.depth]
    omega
theorem shaped_kts {ss : List Str} (haz : ∀ s ∈ ss, AZ s) (ts : TupL) (h : ∀ t ∈ ts, ∃ r n, t.2 = kt ss r n) : SeqAt.shaped (.list (ts.map fun t => tD t.2)) = true := by
  obtain ⟨a, b⟩ := lay_kts haz ts h
  simp [SeqAt.shaped, PyData.canLay0, PyData.depth, a]
  omega
theorem shaped_kt {ss : List Str} (haz : ∀ s ∈ ss, AZ s) (q n : Int) : SeqAt.shaped (tD (kt ss q n)) = true := by
  have e2 : tD (kt ss q n) = .tuple [.int q, .str (ss.getD n.toNat ""), .int n] := rfl
  rw [e2]
  have hz := (getD_az haz n.toNat).ok
  generalize ss.getD n.toNat "" = z at hz
  simp [SeqAt.shaped, PyData.canLay0, PyData.canLayAll0, PyData.depth, PyData.depthAll, hz]
theorem eqv_kt (ss : List Str) (q n : Int) : PyData.eqv (tD (kt ss q n)) (tD (kt ss q n)) = true := by
  have e2 : tD (kt ss q n) = .tuple [.int q, .str (ss.getD n.toNat ""), .int n] := rfl
  rw [e2]
  simp [PyData.eqv, PyData.eqvAll]
/-- what is within, as the law keeps it: number and run -/
def kvW (L : List (Int × Int)) : List (Key × V) := L.map fun e => (.inl e.1, .int e.2)
theorem kvW_nd {L : List (Int × Int)} (h : (L.map (·.1)).Nodup) : ((kvW L).map (·.1)).Nodup := by
  have e : (kvW L).map (·.1) = (L.map (·.1)).map (Sum.inl : Int → Key) := by unfold kvW; rw [List.map_map, List.map_map]; rfl
  rw [e]
  exact List.Pairwise.map _ (fun a b hab z => hab (Sum.inl.inj z)) h
theorem kvW_at {L : List (Int × Int)} (h : (L.map (·.1)).Nodup) {e : Int × Int} (he : e ∈ L) : valV (kvW L) (.inl e.1) = some (.int e.2) := valV_of_mem (kvW_nd h) (List.mem_map_of_mem (f := fun e : Int × Int => ((.inl e.1 : Key), V.int e.2)) he)
theorem kvW_none {L : List (Int × Int)} {n : Int} (h : ∀ e ∈ L, e.1 ≠ n) : valV (kvW L) (.inl n) = none := by
  cases hv : valV (kvW L) (.inl n) with
  | none => rfl
  | some v =>
    obtain ⟨e, he, z⟩ := List.mem_map.mp (valV_mem hv)
    injection z with z _
    exact absurd (Sum.inl.inj z) (h e he)
def cutW (L : List (Int × Int)) (n : Int) : List (Int × Int) := L.filter fun e => decide (e.1 ≠ n)
theorem kvW_drop (n : Int) : ∀ L : List (Int × Int), dropK (kvW L) (.inl n) = kvW (cutW L n)
  | [] => rfl
  | e :: r => by
    have ih := kvW_drop n r
    unfold dropK kvW cutW at ih ⊢
    rw [List.map_cons, List.filter_cons, List.filter_cons]
    by_cases h : e.1 = n
    · have h' : ((Sum.inl e.1 : Key), V.int e.2).1 = .inl n := by rw [h]
      rw [if_neg (by simp [h]), if_neg (by simp [h])]
      exact ih
    · rw [if_pos (by simp [h]), if_pos (by simp [h]), List.map_cons, ih]
theorem cutW_perm : ∀ {L : List (Int × Int)} {e : Int × Int}, (L.map (·.1)).Nodup → e ∈ L → L.Perm (e :: cutW L e.1)
  | [], _, _, h => by cases h
  | x :: r, e, nd, h => by
    rw [List.map_cons, List.nodup_cons] at nd
    unfold cutW
    rw [List.filter_cons]
    rcases List.mem_cons.mp h with rfl | h
    · rw [if_neg (by simp)]
      have : r.filter (fun y => decide (y.1 ≠ e.1)) = r := List.filter_eq_self.mpr fun y hy => decide_eq_true fun z => nd.1 (z ▸ List.mem_map_of_mem hy)
      rw [this]
    · have hne : x.1 ≠ e.1 := fun z => nd.1 (z ▸ List.mem_map_of_mem h)
      rw [if_pos (by simp [hne])]
      exact ((cutW_perm nd.2 h).cons x).trans (List.Perm.swap _ _ _)
theorem cutW_mem {L : List (Int × Int)} {n : Int} {e : Int × Int} (h : e ∈ cutW L n) : e ∈ L := (List.mem_filter.mp h).1
theorem kvW_add (L : List (Int × Int)) (c v : Int) : kvW (L ++ [(c, v)]) = kvW L ++ [(.inl c, .int v)] := by unfold kvW; rw [List.map_append]; rfl
def ktL (ss : List Str) (e : Int × Int) : List Key := kt ss e.2 e.1
structure Wk (ss : List Str) (room : Nat) (H : Hp) (W : Addr) (i : Nat) (L : List (Int × Int)) (A B : List Int) (c : Nat) : Prop where
  at' : H W = some (.dK (kvW L))
  per : (L.map (ktL ss)).Perm (inAll ss (i : Int) A B)
  nd : (L.map (·.1)).Nodup
  lt : ∀ e ∈ L, 0 ≤ e.1 ∧ e.1 < (c : Int)
  cl : c ≤ ss.length
  full : c < ss.length → A.length + B.length = room
  few : L.length ≤ 60
theorem Wk.mem {ss : List Str} {room : Nat} {H : Hp} {W : Addr} {i : Nat} {L : List (Int × Int)} {A B : List Int} {c : Nat} (h : Wk ss room H W i L A B c) {n : Int} (hn : n ∈ A) : (n, (i : Int)) ∈ L := by
  obtain ⟨e, he, z⟩ := List.mem_map.mp (h.per.mem_iff.mpr (List.mem_append_left _ (List.mem_map_of_mem (f := kt ss (i : Int)) hn)))
  unfold ktL kt at z
  injection z with z1 z
  injection z with _ z
  injection z with z3 _
  have e1 : e.1 = n := Sum.inl.inj z3
  have e2 : e.2 = (i : Int) := Sum.inl.inj z1
  rw [← e1, ← e2]; exact he
theorem Wk.keys {ss : List Str} {room : Nat} {H : Hp} {W : Addr} {i : Nat} {L : List (Int × Int)} {A B : List Int} {c : Nat} (h : Wk ss room H W i L A B c) (H' : Hp) (h' : H' W = some (.dK (kvW L))) : Wk ss room H' W i L A B c := ⟨h', h.per, h.nd, h.lt, h.cl, h.full, h.few⟩
theorem cut_len {L : List (Int × Int)} {e : Int × Int} (nd : (L.map (·.1)).Nodup) (he : e ∈ L) : (cutW L e.1).length + 1 = L.length := by have := (cutW_perm nd he).length_eq; rw [List.length_cons] at this; omega
theorem cut_nd {L : List (Int × Int)} {n : Int} (nd : (L.map (·.1)).Nodup) : ((cutW L n).map (·.1)).Nodup := (List.filter_sublist.map _).nodup nd
theorem Wk.cut {ss : List Str} {room : Nat} {H : Hp} {W : Addr} {i : Nat} {L : List (Int × Int)} {A B : List Int} {c : Nat} (h : Wk ss room H W i L A B c) {n : Int} (hn : n ∈ A) : ((cutW L n).map (ktL ss)).Perm (inAll ss (i : Int) (A.erase n) B) := by
  refine in_erase h.per hn ?_
  have := (cutW_perm h.nd (h.mem hn)).map (ktL ss)
  rw [List.map_cons] at this
  exact this
theorem Wk.popped {ss : List Str} {room : Nat} {H H' : Hp} {W : Addr} {i : Nat} {L : List (Int × Int)} {A B : List Int} {c : Nat} (h : Wk ss room H W i L A B c) {n : Int} (hn : n ∈ A) (hc : ¬ c < ss.length) (hW : H' W = some (.dK (kvW (cutW L n)))) : Wk ss room H' W i (cutW L n) (A.erase n) B c := by
  have h1 : (cutW L n).length + 1 = L.length := cut_len h.nd (h.mem hn)
  exact ⟨hW, h.cut hn, cut_nd h.nd, fun e he => h.lt e (cutW_mem he), h.cl, fun z => absurd z hc, by have := h.few; omega⟩
theorem Wk.putA {ss : List Str} {room : Nat} {H H' : Hp} {W : Addr} {i : Nat} {L : List (Int × Int)} {A B : List Int} {c : Nat} (h : Wk ss room H W i L A B c) {n : Int} (hn : n ∈ A) (hc : c < ss.length) (hW : H' W = some (.dK (kvW (cutW L n ++ [((c : Int), (i : Int))])))) : Wk ss room H' W i (cutW L n ++ [((c : Int), (i : Int))]) (A.erase n ++ [(c : Int)]) B (c + 1) := by
  have h1 : (cutW L n).length + 1 = L.length := cut_len h.nd (h.mem hn)
  have h2 := erase_len hn
  have h3 := h.full hc
  refine ⟨hW, ?_, ?_, fun e he => ?_, by omega, fun _ => by rw [List.length_append, List.length_singleton]; omega, by rw [List.length_append, List.length_singleton]; have := h.few; omega⟩
  · rw [List.map_append]
    refine ((h.cut hn).append_right _).trans ?_
    unfold inAll
    rw [List.map_append, List.append_assoc, List.append_assoc]
    exact List.Perm.append_left _ List.perm_append_comm
  · rw [List.map_append]
    refine List.nodup_append.mpr ⟨cut_nd h.nd, by simp, fun x hx y hy => ?_⟩
    obtain ⟨e, he, rfl⟩ := List.mem_map.mp hx
    have := (h.lt e (cutW_mem he)).2
    have hy' : y = (c : Int) := by simpa using hy
    omega
  · rcases List.mem_append.mp he with he | he
    · have := h.lt e (cutW_mem he); omega
    · rw [List.mem_singleton.mp he]; constructor <;> simp <;> omega
theorem Wk.putB {ss : List Str} {room : Nat} {H H' : Hp} {W : Addr} {i : Nat} {L : List (Int × Int)} {A B : List Int} {c : Nat} (h : Wk ss room H W i L A B c) {n : Int} (hn : n ∈ A) (hc : c < ss.length) (hW : H' W = some (.dK (kvW (cutW L n ++ [((c : Int), (i : Int) + 1)])))) : Wk ss room H' W i (cutW L n ++ [((c : Int), (i : Int) + 1)]) (A.erase n) (B ++ [(c : Int)]) (c + 1) := by
  have h1 : (cutW L n).length + 1 = L.length := cut_len h.nd (h.mem hn)
  have h2 := erase_len hn
  have h3 := h.full hc
  refine ⟨hW, ?_, ?_, fun e he => ?_, by omega, fun _ => by rw [List.length_append, List.length_singleton]; omega, by rw [List.length_append, List.length_singleton]; have := h.few; omega⟩
  · rw [List.map_append]
    refine ((h.cut hn).append_right _).trans ?_
    unfold inAll
    rw [List.map_append, List.append_assoc]
    exact .refl _
  · rw [List.map_append]
    refine List.nodup_append.mpr ⟨cut_nd h.nd, by simp, fun x hx y hy => ?_⟩
    obtain ⟨e, he, rfl⟩ := List.mem_map.mp hx
    have := (h.lt e (cutW_mem he)).2
    have hy' : y = (c : Int) := by simpa using hy
    omega
  · rcases List.mem_append.mp he with he | he
    · have := h.lt e (cutW_mem he); omega
    · rw [List.mem_singleton.mp he]; constructor <;> simp <;> omega
theorem Wk.next {ss : List Str} {room : Nat} {H : Hp} {W : Addr} {i : Nat} {L : List (Int × Int)} {B : List Int} {c : Nat} (h : Wk ss room H W i L [] B c) : Wk ss room H W (i + 1) L B [] c := by
  refine ⟨h.at', ?_, h.nd, h.lt, h.cl, fun z => by have := h.full z; simpa using this, h.few⟩
  have := h.per
  unfold inAll at this ⊢
  rw [List.map_nil, List.nil_append] at this
  rw [List.map_nil, List.append_nil]
  have e : (((i + 1 : Nat)) : Int) = (i : Int) + 1 := by omega
  rw [e]; exact this
theorem DGet.k' {H : Hp} {a : Addr} {kvs : List (Key × V)} {k : Key} {r : Option V} (e : H a = some (.dK kvs)) (h : valV kvs k = r) : DGet H a (kV k) r := by rw [← h]; exact DGet.k e
def spWalked (K : PySem.W.Frag) : Sp := fun vs H Q _ => ∃ (a r : Addr) (ss : List Str) (room : Nat) (ls : List Addr) (R : List (List Int)), vs = [.ref a, .int room, .ref r] ∧ SqL K H a (ss.map V.str) ∧ ss.length ≤ 60 ∧ (∀ s ∈ ss, s.length ≤ 28 ∧ AZ s) ∧ 1 ≤ room ∧ room ≤ 100 ∧ H r = some (.lst (ls.map V.ref)) ∧ Rd H ls R ∧
  Res ss (first (min room ss.length)) [] (min room ss.length) [] [] R ∧ (∀ d ∈ R, GoodRun ss d) ∧ ∀ H', Same H H' → Q (.bl true) H'
theorem ok_walked (T : Tops K mg) : Df P w K mg base 1 "_law_walked" ["_law_things_here", "_law_room_here", "_law_told"] (spWalked K) := by
  refine T.t_l_walked.df sc_l_walked (fun vs H Q E h => ?_) (fun cdv f A outer s H vs Q E hr h => ?_)
  · obtain ⟨a, r, ss, room, ls, R, rfl, _⟩ := h
    rfl
  obtain ⟨a, r, ss, room, ls, R, rfl, hS, h60, h28, hr1, hr100, hrl, hrd, hres, hgood, q⟩ := h
  refine ⟨_, (@pss_cons _ _ _ _ _ (@ps_set _ _ 3 _ _ _ _ sc_l_walked.nd rfl (Or.inr rfl) (@pe_callTy _ _ _ _ _ _ _ _ _ (dictP K) (by rfl) T.b.n_dict boot_dict (@pa_cons _ _ _ _ _ (@pe_comp _ _ _ _ _ _ _ _ _ _ _ _ _ _ cs_3 rfl rfl rfl (@pi_range1 _ _ _ _ _ _ rfl T.b.n_range (@pa_cons _ _ _ _ _ (@pe_callB _ _ _ _ _ _ _ _ _ (call_min2 rfl) (by rfl) T.b.n_min boot_min (@pa_cons _ _ _ _ _ (@pv _ 1 _ _ (by rfl) (Or.inl rfl) (by decide) (by decide)) (@pa_cons _ _ _ _ _ (@pe_callB _ _ _ _ _ _ _ _ _ (lenQ K) (by rfl) T.b.n_len PySem.boot_len (@pa_cons _ _ _ _ _ (@pv _ 0 _ _ (by rfl) (Or.inr (Or.inl rfl)) (by decide) (by decide)) (@pa_nil _) (by rfl)) (by decide) (by decide) (by rfl) (by rfl)) (@pa_nil _) (by rfl)) (by rfl)) (by decide) (by decide) (by rfl) (by rfl)) (@pa_nil _) (by rfl)) (by rfl)) (fun _ _ _ _ => (@cg _ _ _ _ _ _ _ _ _ _ _ 9 cs_3 rfl (by decide +kernel) (by rfl))) (fun _ _ _ _ => (@pts_nil _)) (fun _ _ _ _ => (@pe_tup _ _ _ _ _ (@pa_cons _ _ _ _ _ (@cw _ _ _ _ _ _ _ _ _ _ _ 9 cs_3 rfl (by decide +kernel) (by rfl) (by decide) (by decide)) (@pa_cons _ _ _ _ _ (@pe_int _ _ _ _) (@pa_nil _) (by rfl)) (by rfl)))) (by intro _; rfl)) (@pa_nil _) (by rfl)) (by decide) (by decide) (by rfl) (by rfl)) (by rfl) (by first | exact .inl rfl | exact .inr rfl)) (@pss_cons _ _ _ _ _ (@ps_set _ _ 4 _ _ _ _ sc_l_walked.nd rfl (Or.inl rfl) (@pe_callB _ _ _ _ _ _ _ _ _ lenG (by rfl) T.b.n_len PySem.boot_len (@pa_cons _ _ _ _ _ (@pv _ 3 _ _ (by rfl) (Or.inr (Or.inl rfl)) (by decide) (by decide)) (@pa_nil _) (by rfl)) (by decide) (by decide) (by rfl) (by rfl)) (by rfl) (by first | exact .inl rfl | exact .inr rfl)) (@pss_cons _ _ _ _ _ (@ps_for _ _ _ _ _ _ _ _ PassesOwn.never rfl (@iE _ K _ _ _ _ _ _ _ T.b.n_enumerate (@pa_cons _ _ _ _ _ (@pv _ 2 _ _ (by rfl) (Or.inl rfl) (by decide) (by decide)) (@pa_nil _) (by rfl)) (by rfl) (by rfl) (by rfl)) (@gT _ K _ _ _ 2 _ (@pgs_cons _ _ _ _ _ (@pg_name _ _ 5 _ sc_l_walked.nd rfl (Or.inl rfl) (by first | exact .inl rfl | exact .inr rfl)) (@pgs_cons _ _ _ _ _ (@pg_name _ _ 6 _ sc_l_walked.nd rfl (Or.inl rfl) (by first | exact .inl rfl | exact .inr rfl)) (@pgs_nil _) (by rfl)) (by rfl)) (by rfl) (by rfl) (by rfl) (by rfl)) (@pss_one _ _ _ (@ps_for _ _ _ _ _ _ _ _ PassesOwn.never rfl (@iL _ K _ _ _ (@pv _ 6 _ _ (by rfl) (Or.inl rfl) (by decide) (by decide)) (by rfl)) (@pg_name _ _ 7 _ sc_l_walked.nd rfl (Or.inl rfl) (by first | exact .inl rfl | exact .inr rfl)) (@pss_cons _ _ _ _ _ (@ps_set _ _ 8 _ _ _ _ sc_l_walked.nd rfl (Or.inl rfl) (@pe_callB _ _ _ _ _ _ _ _ _ (srtT K) (by rfl) T.b.n_sorted boot_sorted (@pa_cons _ _ _ _ _ (@pe_thaw _ _ _ (@pe_comp _ _ _ _ _ _ _ _ _ _ _ _ _ _ cs_4 rfl rfl rfl (@pi_keys _ _ _ _ (@pv _ 3 _ _ (by rfl) (Or.inr (Or.inl rfl)) (by decide) (by decide))) (fun _ _ _ _ => (@cg _ _ _ _ _ _ _ _ _ _ _ 9 cs_4 rfl (by decide +kernel) (by rfl))) (fun _ _ _ _ => (@pts_nil _)) (fun _ _ _ _ => (@pe_tup _ _ _ _ _ (@pa_cons _ _ _ _ _ (@pe_ix _ _ _ _ _ _ _ (ixG hr) (@cv _ _ _ _ _ _ _ _ _ _ _ 3 cs_4 rfl (by decide +kernel) (by rfl) (by decide) (by decide)) (@cw _ _ _ _ _ _ _ _ _ _ _ 9 cs_4 rfl (by decide +kernel) (by rfl) (by decide) (by decide)) (fun _ _ => rfl)) (@pa_cons _ _ _ _ _ (@pe_ix _ _ _ _ _ _ _ (ixL K) (@cv _ _ _ _ _ _ _ _ _ _ _ 0 cs_4 rfl (by decide +kernel) (by rfl) (by decide) (by decide)) (@cw _ _ _ _ _ _ _ _ _ _ _ 9 cs_4 rfl (by decide +kernel) (by rfl) (by decide) (by decide)) (fun _ _ => rfl)) (@pa_cons _ _ _ _ _ (@cw _ _ _ _ _ _ _ _ _ _ _ 9 cs_4 rfl (by decide +kernel) (by rfl) (by decide) (by decide)) (@pa_nil _) (by rfl)) (by rfl)) (by rfl)))) (by intro _; rfl))) (@pa_nil _) (by rfl)) (by decide) (by decide) (by rfl) (by rfl)) (by rfl) (by first | exact .inl rfl | exact .inr rfl)) (@pss_cons _ _ _ _ _ (@ps_if _ _ _ _ _ _ _ _ (@PW.pt _ _ _ (@pw_or _ _ _ _ _ _ _ (@pt_cmpR _ _ _ _ _ _ _ _ (@eqD _ K _ hr (by rfl)) (@pv _ 8 _ _ (by rfl) (Or.inl rfl) (by decide) (by decide)) (@pe_lst _ _ _ _ (@pa_nil _)) (nomark _)) (@pw_or1 _ _ _ _ (@pt_cmpR _ _ _ _ _ _ _ _ (@neD _ K _ hr (by rfl)) (@pe_ix _ _ _ _ _ _ _ (ixL K) (@pv _ 8 _ _ (by rfl) (Or.inl rfl) (by decide) (by decide)) (@pe_int _ _ _ _) (fun _ _ => rfl)) (@pe_tup _ _ _ _ _ (@pa_cons _ _ _ _ _ (@pv _ 5 _ _ (by rfl) (Or.inl rfl) (by decide) (by decide)) (@pa_cons _ _ _ _ _ (@pe_ix _ _ _ _ _ _ _ (ixL K) (@pv _ 0 _ _ (by rfl) (Or.inr (Or.inl rfl)) (by decide) (by decide)) (@pv _ 7 _ _ (by rfl) (Or.inl rfl) (by decide) (by decide)) (fun _ _ => rfl)) (@pa_cons _ _ _ _ _ (@pv _ 7 _ _ (by rfl) (Or.inl rfl) (by decide) (by decide)) (@pa_nil _) (by rfl)) (by rfl)) (by rfl))) (nomark _))))) (@pss_one _ _ _ (@ps_ret _ _ _ _ (@pe_bl _ _ _ _))) (@pss_nil _)) (@pss_cons _ _ _ _ _ (@ps_expr _ _ _ _ (@pe_bm _ _ _ _ _ _ _ _ _ _ _ _ PySem.F.plainAttrs_dict PySem.F.slot_dict_pop PySem.F.type_dict_pop mt_dpop (@pv _ 3 _ _ (by rfl) (Or.inr (Or.inl rfl)) (by decide) (by decide)) (@pa_cons _ _ _ _ _ (@pv _ 7 _ _ (by rfl) (Or.inl rfl) (by decide) (by decide)) (@pa_nil _) (by rfl)) (by rfl) (by rfl) (by rfl) (by rfl) (by rfl)) (by rfl)) (@pss_one _ _ _ (@ps_if _ _ _ _ _ _ _ _ (@pt_cmpR _ _ _ _ _ _ _ _ op_lt (@pv _ 4 _ _ (by rfl) (Or.inl rfl) (by decide) (by decide)) (@pe_callB _ _ _ _ _ _ _ _ _ (lenQ K) (by rfl) T.b.n_len PySem.boot_len (@pa_cons _ _ _ _ _ (@pv _ 0 _ _ (by rfl) (Or.inr (Or.inl rfl)) (by decide) (by decide)) (@pa_nil _) (by rfl)) (by decide) (by decide) (by rfl) (by rfl)) (nomark _)) (@pss_cons _ _ _ _ _ (@ps_asg _ _ _ _ _ _ (@pe_op _ _ _ _ _ _ _ _ op_add (@pv _ 5 _ _ (by rfl) (Or.inl rfl) (by decide) (by decide)) (@pe_callTy _ _ _ _ _ _ _ _ _ call_int1 (by rfl) T.b.n_int boot_int (@pa_cons _ _ _ _ _ (@pe_cmpR _ _ _ _ _ _ _ _ op_lt_str (@pe_ix _ _ _ _ _ _ _ (ixL K) (@pv _ 0 _ _ (by rfl) (Or.inr (Or.inl rfl)) (by decide) (by decide)) (@pv _ 4 _ _ (by rfl) (Or.inl rfl) (by decide) (by decide)) (fun _ _ => rfl)) (@pe_ix _ _ _ _ _ _ _ (ixL K) (@pv _ 0 _ _ (by rfl) (Or.inr (Or.inl rfl)) (by decide) (by decide)) (@pv _ 7 _ _ (by rfl) (Or.inl rfl) (by decide) (by decide)) (fun _ _ => rfl)) (nomark _)) (@pa_nil _) (by rfl)) (by decide) (by decide) (by rfl) (by rfl))) (@pg_sub _ _ _ _ _ _ _ (@pv _ 3 _ _ (by rfl) (Or.inr (Or.inl rfl)) (by decide) (by decide)) (@pv _ 4 _ _ (by rfl) (Or.inl rfl) (by decide) (by decide)) (setG hr) (by intro _; rfl)) (by rfl) (by rfl) (by rfl)) (@pss_one _ _ _ (@ps_set _ _ 4 _ _ _ _ sc_l_walked.nd rfl (Or.inl rfl) (@pe_op _ _ _ _ _ _ _ _ op_add (@pv _ 4 _ _ (by rfl) (Or.inl rfl) (by decide) (by decide)) (@pe_int _ _ _ _)) (by rfl) (by first | exact .inl rfl | exact .inr rfl)))) (@pss_nil _)))))) (by intro _; rfl))) (by intro _; rfl)) (@pss_one _ _ _ (@ps_ret _ _ _ _ (@pe_and _ _ _ _ _ _ _ (@pe_cmpR _ _ _ _ _ _ _ _ op_eq (@pe_callB _ _ _ _ _ _ _ _ _ lenG (by rfl) T.b.n_len PySem.boot_len (@pa_cons _ _ _ _ _ (@pv _ 3 _ _ (by rfl) (Or.inr (Or.inl rfl)) (by decide) (by decide)) (@pa_nil _) (by rfl)) (by decide) (by decide) (by rfl) (by rfl)) (@pe_int _ _ _ _) (nomark _)) (@pe_one _ _ _ _ _ (@pe_cmpR _ _ _ _ _ _ _ _ op_eq (@pv _ 4 _ _ (by rfl) (Or.inl rfl) (by decide) (by decide)) (@pe_callB _ _ _ _ _ _ _ _ _ (lenQ K) (by rfl) T.b.n_len PySem.boot_len (@pa_cons _ _ _ _ _ (@pv _ 0 _ _ (by rfl) (Or.inr (Or.inl rfl)) (by decide) (by decide)) (@pa_nil _) (by rfl)) (by decide) (by decide) (by rfl) (by rfl)) (nomark _))))))))), ?_⟩
  have haz : ∀ s ∈ ss, AZ s := fun s h => (h28 s h).2
  have hl : (((ss.map V.str).length : Nat) : Int) = (ss.length : Int) := by rw [List.length_map]
  have hmin : (if (((ss.map V.str).length : Nat) : Int) < (room : Int) then (((ss.map V.str).length : Nat) : Int) else (room : Int)) = ((min room ss.length : Nat) : Int) := by split <;> omega
  refine ⟨_, rfl, _, rfl, a, _, rfl, .inl hS, _, _, rfl, ?_⟩
  simp only [hmin]
  refine ⟨_, rfl, by omega, by omega, fun D hD => ?_⟩
  rw [Int.toNat_natCast]
  generalize hk : min room ss.length = k at hres ⊢
  have hk60 : k ≤ 60 := by omega
  refine comp_range (fun i zs σ H2 => (∃ v : Option V, σ = [some (.ref a), some (.int room), some (.ref r), none, none, none, none, none, none, v]) ∧ (∃ ts : List (Addr × Key × V), zs = ts.map (fun t => V.ref t.1) ∧ (∀ t ∈ ts, H2 t.1 = some (.tup [kV t.2.1, t.2.2])) ∧ ts.map (·.2) = kvW ((first i).map fun n => (n, 0))) ∧ i ≤ k ∧ H2 D = some (.lst zs) ∧ Same H H2) ?_ ?_ ?_
  · exact ⟨⟨none, rfl⟩, ⟨[], rfl, (fun t h => by cases h), rfl⟩, Nat.zero_le _, upd_same, same_new hD _⟩
  · rintro i zs σ H2 hi ⟨⟨v, rfl⟩, ⟨ts, rfl, hat, hE⟩, hi', hD2, s2⟩
    refine ⟨_, rfl, (by show 2 ≤ sizeLine; decide), fun n hn0 => ?_⟩
    have sn := same_new hn0 (.tup [.int (0 + (i : Int)), .int 0])
    have hD3 := sn _ _ hD2
    have nDn : D ≠ n := ne_of_none hD2 hn0
    have htl : ts.length = i := by have := congrArg List.length hE; unfold kvW at this; rw [List.length_map, List.length_map, List.length_map, first_len] at this; exact this
    refine ⟨hD3, (by rw [List.length_map, htl]; exact small1000 (by omega)), ⟨_, rfl⟩, ⟨ts ++ [(n, .inl (0 + (i : Int)), .int 0)], by rw [List.map_append]; rfl, fun t ht => ?_, ?_⟩, by omega, upd_same, fun b o hb => ?_⟩
    · rcases List.mem_append.mp ht with ht | ht
      · exact tup_keep hD3 _ _ _ (sn _ _ (hat t ht))
      · rw [List.mem_singleton.mp ht, upd_ne nDn.symm]; exact upd_same
    · rw [List.map_append, hE]
      unfold first upsI kvW
      rw [List.range_succ, List.map_append, List.map_append, List.map_append]
      rfl
    · rw [upd_ne (ne_of_none hb hD)]; exact sn _ _ (s2 b o hb)
  rintro zs σ H2 ⟨⟨v, rfl⟩, ⟨ts, rfl, hat, hE⟩, _, hD2, s2⟩
  have htl : ts.length = k := by have := congrArg List.length hE; unfold kvW at this; rw [List.length_map, List.length_map, List.length_map, first_len] at this; exact this
  have hnd0 : (((first k).map fun n => (n, (0 : Int))).map (·.1)).Nodup := by rw [List.map_map]; show ((first k).map fun n => n).Nodup; rw [List.map_id']; exact first_nd k
  refine ⟨D, ts, rfl, SqL.of hD2, hat, by omega, fun W hW => ?_⟩
  rw [hE, mergeK_nd _ [] (by rw [List.nil_append]; exact kvW_nd hnd0), List.nil_append]
  have s3 := s2.trans (same_new hW (.dK (kvW ((first k).map fun n => (n, 0)))))
  have hW0 : H W = none := s2.free hW
  have hW3 : (upd H2 W (.dK (kvW ((first k).map fun n => (n, 0))))) W = some (.dK (kvW ((first k).map fun n => (n, 0)))) := upd_same
  generalize upd H2 W (.dK (kvW ((first k).map fun n => (n, 0)))) = H3 at s3 hW3 ⊢
  refine ⟨_, rfl, W, _, rfl, hW3, ?_⟩
  have hkl : (((kvW ((first k).map fun n => (n, (0 : Int)))).length : Nat) : Int) = (k : Int) := by unfold kvW; rw [List.length_map, List.length_map, first_len]
  rw [hkl]
  have wk0 : Wk ss room H3 W 0 ((first k).map fun n => (n, 0)) (first k) [] k := by
    refine ⟨hW3, ?_, hnd0, fun e he => ?_, by omega, fun z => by rw [first_len]; simp; omega, by rw [List.length_map, first_len]; omega⟩
    · unfold inAll
      rw [List.map_nil, List.append_nil, List.map_map]
      exact .refl _
    · obtain ⟨n, hn, rfl⟩ := List.mem_map.mp he
      exact first_mem hn
  have hrlen : ls.length = R.length := hrd.len
  refine ⟨_, rfl, r, _, rfl, SqL.of (s3 _ _ hrl), ?_⟩
  refine for_enum (K := K) (a := r) (xs := ls.map V.ref) (fun i σ H4 => ∃ (L : List (Int × Int)) (A B : List Int) (c : Nat) (v5 v6 v7 v8 : Option V), σ = [some (.ref a), some (.int room), some (.ref r), some (.ref W), some (.int c), v5, v6, v7, v8] ∧ Same H H4 ∧ Wk ss room H4 W i L A B c ∧ (i < R.length → B = [] ∧ Res ss A [] c [] (R.take i) R) ∧ (i = R.length → A = [] ∧ B = [])) ⟨_, _, _, _, _, _, _, _, rfl, s3, wk0, fun _ => ⟨rfl, hres⟩, fun z => ?_⟩ (fun i σ H4 ⟨_, _, _, _, _, _, _, _, _, s4, _⟩ => SqL.of (s4 _ _ hrl)) ?_ ?_
  · rcases res_head hres with ⟨h, _⟩ | ⟨rest, tail, e⟩
    · exact ⟨h, rfl⟩
    · rw [e] at z; simp at z
  · rintro i x σ H4 p hx ⟨L, A, B, c, v5, v6, v7, v8, rfl, s4, wk, hgo, _⟩ hp
    rw [List.getElem?_map] at hx
    cases hz : ls[i]? with
    | none => rw [hz] at hx; cases hx
    | some l =>
    rw [hz] at hx
    cases hx
    have hil : i < R.length := by rw [← hrlen]; exact (List.getElem?_eq_some_iff.mp hz).1
    obtain ⟨d, hd, hld⟩ := hrd.at hz
    obtain ⟨rfl, hres4⟩ := hgo hil
    obtain ⟨_, _, hdm⟩ := hgood d (List.mem_of_getElem? hd)
    have sp := same_new hp (.tup [.int (i : Int), .ref l])
    have hp5 : (upd H4 p (.tup [.int (i : Int), .ref l])) p = some (.tup [.int (i : Int), .ref l]) := upd_same
    have s5 := s4.trans sp
    have wk5 := wk.keys _ (sp _ _ wk.at')
    generalize upd H4 p (.tup [.int (i : Int), .ref l]) = H5 at hp5 s5 wk5 ⊢
    refine ⟨p, _, rfl, SqT.of hp5, rfl, _, _, rfl, _, _, rfl, rfl, ?_⟩
    refine ⟨_, rfl, l, rfl, ⟨_, SqL.of (s5 _ _ hld)⟩, ?_⟩
    refine for_list (K := K) (a := l) (xs := d.map V.int) (fun j σ H6 => ∃ (L : List (Int × Int)) (A B : List Int) (c : Nat) (v7 v8 : Option V), σ = [some (.ref a), some (.int room), some (.ref r), some (.ref W), some (.int c), some (.int (i : Int)), some (.ref l), v7, v8] ∧ Same H H6 ∧ Wk ss room H6 W i L A B c ∧ Res ss A B c (d.take j) (R.take i) R) ⟨_, _, _, _, _, _, rfl, s5, wk5, hres4⟩ (fun j σ H6 _ ⟨_, _, _, _, _, _, _, s6, _⟩ => SqL.of (s6 _ _ hld)) ?_ ?_
    · rintro j x σ H6 hx ⟨L, A, B, c, v7, v8, rfl, s6, wk, hR⟩
      rw [List.getElem?_map] at hx
      cases hz2 : d[j]? with
      | none => rw [hz2] at hx; cases hx
      | some n =>
      rw [hz2] at hx
      cases hx
      obtain ⟨hle, hnext⟩ := res_go hd hz2 hR
      have hnA := hle.1
      have hnm := hdm n (List.mem_of_getElem? hz2)
      have hkn : atI (ss.map V.str) n = some (.str (ss.getD n.toNat "")) := at_key hnm.1 hnm.2
      -- the law's own list
      refine ⟨W, _, wk.at', True.intro, _, rfl, W, _, rfl, wk.at', fun o B2 hB2 => ?_⟩
      have hfz : (upd H6 W (.frz o (.dK (kvW L)))) W = some (.frz o (.dK (kvW L))) := upd_same
      have k7 : ∀ b x, H6 b = some x → b ≠ W → (upd H6 W (.frz o (.dK (kvW L)))) b = some x := fun b x h n => by rw [upd_ne n]; exact h
      have b7 : ∀ b, (upd H6 W (.frz o (.dK (kvW L)))) b = none → H6 b = none := fun b h => by
        by_cases e : b = W
        · rw [e, hfz] at h; cases h
        · rw [upd_ne e] at h; exact h
      have sH7 : ∀ b x, H b = some x → (upd H6 W (.frz o (.dK (kvW L)))) b = some x := fun b x h => k7 b x (s6 _ _ h) (ne_of_none h hW0)
      generalize upd H6 W (.frz o (.dK (kvW L))) = H7 at hfz k7 hB2 sH7 b7 ⊢
      refine comp_kF (d := W) (o := o) (kvs := kvW L) (fun m zs σ H8 => (∃ v : Option V, σ = [some (.ref a), some (.int room), some (.ref r), some (.ref W), some (.int c), some (.int (i : Int)), some (.ref l), some (.int n), v8, v]) ∧ (∃ ts : TupL, zs = refs ts ∧ AtT H8 ts ∧ ts.map (·.2) = (L.take m).map (ktL ss)) ∧ m ≤ L.length ∧ H8 B2 = some (.lst zs) ∧ Same H7 H8) ?_ (fun _ _ _ _ h => h.2.2.2.2 _ _ hfz) ?_ ?_
      · exact ⟨⟨none, rfl⟩, ⟨[], rfl, (fun t h => by cases h), rfl⟩, Nat.zero_le _, upd_same, same_new hB2 _⟩
      · rintro m kk' x zs σ H8 hkx ⟨⟨v, rfl⟩, ⟨ts, rfl, hat8, hE8⟩, hm, hB8, s8⟩
        unfold kvW at hkx
        rw [List.getElem?_map] at hkx
        cases hu : L[m]? with
        | none => rw [hu] at hkx; cases hkx
        | some u =>
        rw [hu] at hkx
        cases hkx
        have hml : m < L.length := (List.getElem?_eq_some_iff.mp hu).1
        have hum := List.mem_of_getElem? hu
        have hult := wk.lt u hum
        have hval := kvW_at wk.nd hum
        have hft := s8 _ _ hfz
        have hcl := wk.cl
        have hku : atI (ss.map V.str) u.1 = some (.str (ss.getD u.1.toNat "")) := at_key hult.1 (by omega)
        refine ⟨_, rfl, _, rfl, W, _, rfl, DGet.fz (k := .inl u.1) hft hval, _, rfl, _, rfl, a, _, _, _, rfl, rfl, ?_, hku, _, rfl, (by show 3 ≤ sizeLine; decide), fun t ht0 => ?_⟩
        · exact Same.seq (H := H) (fun b x h => s8 _ _ (sH7 b x h)) hS
        have sn := same_new ht0 (.tup [.int u.2, .str (ss.getD u.1.toNat ""), .int u.1])
        have hB9 := sn _ _ hB8
        have nBn : B2 ≠ t := ne_of_none hB8 ht0
        have htl8 : ts.length = m := by have := congrArg List.length hE8; rw [List.length_map, List.length_map, List.length_take] at this; omega
        have hfew := wk.few
        refine ⟨hB9, (by unfold refs; rw [List.length_map, htl8]; exact small1000 (by omega)), ⟨_, rfl⟩, ⟨ts ++ [(t, ktL ss u)], by unfold refs; rw [List.map_append]; rfl, fun y hy => ?_, ?_⟩, hml, upd_same, fun b o' hb => ?_⟩
        · rcases List.mem_append.mp hy with hy | hy
          · exact tup_keep hB9 _ _ _ (sn _ _ (hat8 y hy))
          · rw [List.mem_singleton.mp hy, upd_ne nBn.symm]; exact upd_same
        · rw [List.map_append, hE8, List.take_add_one, hu, List.map_append]; rfl
        · rw [upd_ne (ne_of_none hb hB2)]; exact sn _ _ (s8 b o' hb)
      rintro zs σ H8 ⟨⟨v, rfl⟩, ⟨ts, rfl, hat8, hE8⟩, _, hB8, s8⟩
      have hkvl : (kvW L).length = L.length := by unfold kvW; rw [List.length_map]
      rw [hkvl, List.take_of_length_le (Nat.le_refl _)] at hE8
      have hf8 := s8 _ _ hfz
      refine ⟨o, hf8, ?_⟩
      have hB9 : (upd H8 W (.dK (kvW L))) B2 = some (.lst (refs ts)) := by rw [upd_ne (ne_of_none hfz hB2).symm]; exact hB8
      have hat9 : AtT (upd H8 W (.dK (kvW L))) ts := fun t ht => by
        have h1 := hat8 t ht
        rw [upd_ne (ne_of h1 hf8 fun z => nomatch z)]; exact h1
      have hW9 : (upd H8 W (.dK (kvW L))) W = some (.dK (kvW L)) := upd_same
      have s9 : Same H (upd H8 W (.dK (kvW L))) := fun b x h => by rw [upd_ne (ne_of_none h hW0)]; exact s8 _ _ (sH7 b x h)
      generalize upd H8 W (.dK (kvW L)) = H9 at hB9 hat9 hW9 s9 ⊢
      have wk9 := wk.keys _ hW9
      have hfew := wk.few
      have hkts : ∀ t ∈ ts, ∃ r n, t.2 = kt ss r n := fun t ht => by
        have := List.mem_map_of_mem (f := fun t : Addr × List Key => t.2) ht
        rw [hE8] at this
        obtain ⟨e, _, e2⟩ := List.mem_map.mp this
        exact ⟨e.2, e.1, e2.symm⟩
      have htl9 : ts.length = L.length := by have := congrArg List.length hE8; rw [List.length_map, List.length_map] at this; exact this
      refine ⟨B2, ts, [true, false, true], rfl, SqL.of hB9, hat9, by simp, fun t ht => ?_, by omega, fun so ts' hso hperm hpw => ?_⟩
      · obtain ⟨r', n', e⟩ := hkts t ht; rw [e]; rfl
      have s10 := s9.trans (same_new hso (.lst (refs ts')))
      have hso10 : (upd H9 so (.lst (refs ts'))) so = some (.lst (refs ts')) := upd_same
      have wk10 := wk9.keys _ (same_new hso (.lst (refs ts')) _ _ hW9)
      have hat10 : AtT (upd H9 so (.lst (refs ts'))) ts' := fun t ht => same_new hso _ _ _ (hat9 t (hperm.mem_iff.mp ht))
      generalize upd H9 so (.lst (refs ts')) = H10 at s10 hso10 wk10 hat10 ⊢
      have hkts' : ∀ t ∈ ts', ∃ r n, t.2 = kt ss r n := fun t ht => hkts t (hperm.mem_iff.mp ht)
      cases ts' with
      | nil =>
        have := hperm.length_eq
        have hm := wk.mem hnA
        have := List.length_pos_of_mem hm
        simp at *
        omega
      | cons t0 tr =>
      have hper' : ((t0 :: tr).map (·.2)).Perm (inAll ss (i : Int) A B) := (hperm.map _).trans (by rw [hE8]; exact wk.per)
      obtain ⟨n', et, hle'⟩ := in_min hper' (fun z => by rw [z] at hnA; cases hnA) (t := t0.2) (by simp) (fun u hu => by
        obtain ⟨t', ht', rfl⟩ := List.mem_map.mp hu
        rcases List.mem_cons.mp ht' with rfl | ht'
        · exact lexB_irrefl _
        · exact (List.pairwise_cons.mp hpw).1 t' ht')
      have enn : n = n' := least_one hle hle'
      subst enn
      refine ⟨_, rfl, (by show 0 ≤ sizeLine; decide), fun e1 he1 => ?_⟩
      have s11 := s10.trans (same_new he1 (.lst []))
      have h11 := same_new he1 (.lst [])
      refine ⟨.list ((t0 :: tr).map fun t => tD t.2), .list [], .lst (SqL.of (h11 _ _ hso10)) (dv_tups _ (AtT.mono hat10 h11)), .lst (SqL.of upd_same) .nil, shaped_kts haz _ hkts', shaped_ints [], _, rfl, ?_⟩
      have e0 : (if false = true then !PyData.eqv (.list ((t0 :: tr).map fun t => tD t.2)) (.list []) else PyData.eqv (.list ((t0 :: tr).map fun t => tD t.2)) (.list [])) = false := by simp [PyData.eqv, PyData.eqvAll]
      rw [e0]
      have hso11 := h11 _ _ hso10
      have hat11 := AtT.mono hat10 h11
      have wk11 := wk10.keys _ (h11 _ _ wk10.at')
      generalize upd H10 e1 (.lst []) = H11 at s11 hso11 hat11 wk11 ⊢
      refine iteF ⟨_, rfl, so, _, _, _, rfl, rfl, SqL.of hso11, (show atI (refs (t0 :: tr)) ((0 : Nat) : Int) = some (.ref t0.1) from atI_nat rfl), _, rfl, _, rfl, _, rfl, a, _, _, _, rfl, rfl, s11.seq hS, hkn, _, rfl, (by show 3 ≤ sizeLine; decide), fun tp htp => ?_⟩
      have sp12 := same_new htp (.tup [.int (i : Int), .str (ss.getD n.toNat ""), .int n])
      have s12 := s11.trans sp12
      have ht0 := sp12 _ _ (hat11 t0 (by simp))
      have wk12 := wk11.keys _ (sp12 _ _ wk11.at')
      have htp12 : (upd H11 tp (.tup [.int (i : Int), .str (ss.getD n.toNat ""), .int n])) tp = some (.tup ((kt ss (i : Int) n).map kV)) := upd_same
      generalize upd H11 tp (.tup [.int (i : Int), .str (ss.getD n.toNat ""), .int n]) = H12 at s12 ht0 wk12 htp12 ⊢
      rw [et] at ht0
      refine ⟨tD (kt ss (i : Int) n), tD (kt ss (i : Int) n), .tup (SqT.of ht0) (dv_keys _), .tup (SqT.of htp12) (dv_keys _), shaped_kt haz _ _, shaped_kt haz _ _, _, rfl, ?_⟩
      rw [show (if true = true then !PyData.eqv (tD (kt ss (i : Int) n)) (tD (kt ss (i : Int) n)) else PyData.eqv (tD (kt ss (i : Int) n)) (tD (kt ss (i : Int) n))) = false by rw [eqv_kt]; rfl]
      refine iteF ?_
      have hW12 := wk12.at'
      refine ⟨_, rfl, .inr (.inr (.inl ⟨rfl, .inl ⟨_, hW12⟩⟩)), _, rfl, W, _, .inl n, _, rfl, rfl, hW12, (show valV (kvW L) (.inl n) = some (.int (i : Int)) from kvW_at wk12.nd (wk12.mem hnA)), ?_⟩
      rw [kvW_drop]
      have s13 : Same H (upd H12 W (.dK (kvW (cutW L n)))) := fun b x h => by rw [upd_ne (ne_of_none h hW0)]; exact s12 _ _ h
      have hW13 : (upd H12 W (.dK (kvW (cutW L n)))) W = some (.dK (kvW (cutW L n))) := upd_same
      generalize upd H12 W (.dK (kvW (cutW L n))) = H13 at s13 hW13 ⊢
      refine ⟨_, rfl, _, rfl, a, _, rfl, .inl (s13.seq hS), _, _, rfl, rfl, _, rfl, ite2 (fun dd => ?_) (fun dd => ?_)⟩
      · have hc : c < ss.length := by have := of_decide_eq_true dd; rw [hl] at this; omega
        have hkc : atI (ss.map V.str) (c : Int) = some (.str (ss.getD (c : Int).toNat "")) := at_key (by omega) (by omega)
        have hcl : (kvW (cutW L n)).length < sizeLine := by
          have h1 : (cutW L n).length + 1 = L.length := cut_len wk.nd (wk.mem hnA)
          unfold kvW
          rw [List.length_map]
          exact small1000 (by omega)
        have hnone : valV (kvW (cutW L n)) (.inl (c : Int)) = none := kvW_none fun e he z => by have := (wk.lt e (cutW_mem he)).2; omega
        refine ⟨_, rfl, _, rfl, _, rfl, a, _, _, _, rfl, rfl, s13.seq hS, hkc, _, rfl, _, rfl, a, _, _, _, rfl, rfl, s13.seq hS, hkn, _, _, rfl, rfl, .inr ⟨_, rfl, _, _, rfl, rfl, ?_⟩⟩
        rcases hnext with ⟨z, _⟩ | ⟨_, hk', hR'⟩ | ⟨_, hk', hR'⟩
        · exact absurd hc z
        · rw [show (if decide ((ss.getD (c : Int).toNat "").cps.toList < (ss.getD n.toNat "").cps.toList) = true then (1 : Int) else 0) = 0 by rw [if_neg]; intro z; exact hk' (of_decide_eq_true (p := (ss.getD (c : Int).toNat "").cps.toList < (ss.getD n.toNat "").cps.toList) z)]
          simp only [Int.add_zero]
          refine ⟨_, rfl, _, rfl, W, _, rfl, DPut.k (k := .inl (c : Int)) hW13 hcl, ?_⟩
          rw [putK_new _ hnone, ← kvW_add]
          refine ⟨_, rfl, _, _, rfl, rfl, ?_⟩
          exact ⟨_, _, _, c + 1, _, _, rfl, fun b x h => (by rw [upd_ne (ne_of_none h hW0)]; exact s13 _ _ h), wk.putA hnA hc upd_same, hR'⟩
        · rw [show (if decide ((ss.getD (c : Int).toNat "").cps.toList < (ss.getD n.toNat "").cps.toList) = true then (1 : Int) else 0) = 1 by rw [if_pos]; exact decide_eq_true (p := (ss.getD (c : Int).toNat "").cps.toList < (ss.getD n.toNat "").cps.toList) hk']
          refine ⟨_, rfl, _, rfl, W, _, rfl, DPut.k (k := .inl (c : Int)) hW13 hcl, ?_⟩
          rw [putK_new _ hnone, ← kvW_add]
          refine ⟨_, rfl, _, _, rfl, rfl, ?_⟩
          exact ⟨_, _, _, c + 1, _, _, rfl, fun b x h => (by rw [upd_ne (ne_of_none h hW0)]; exact s13 _ _ h), wk.putB hnA hc upd_same, hR'⟩
      · have hc : ¬ c < ss.length := fun z => dd (decide_eq_true (by rw [hl]; omega))
        rcases hnext with ⟨_, hR'⟩ | ⟨z, _⟩ | ⟨z, _⟩
        · exact ⟨_, _, _, _, _, _, rfl, s13, wk.popped hnA hc hW13, hR'⟩
        · exact absurd z hc
        · exact absurd z hc
    · rintro σ H6 ⟨L, A, B, c, v7, v8, rfl, s6, wk, hR⟩
      rw [List.length_map, List.take_of_length_le (Nat.le_refl _)] at hR
      rcases res_end hd hR with ⟨rfl, rfl, e⟩ | ⟨rfl, hlt, hR'⟩
      · exact ⟨_, _, _, _, _, _, _, _, rfl, s6, wk.next, fun z => absurd z (by omega), fun _ => ⟨rfl, rfl⟩⟩
      · exact ⟨_, _, _, _, _, _, _, _, rfl, s6, wk.next, fun _ => ⟨rfl, hR'⟩, fun z => absurd z (by omega)⟩
  · rintro σ H4 ⟨L, A, B, c, v5, v6, v7, v8, rfl, s4, wk, _, hend⟩
    obtain ⟨rfl, rfl⟩ := hend (by rw [List.length_map]; exact hrlen)
    have hL : L = [] := by
      have := wk.per.length_eq
      rw [List.length_map] at this
      exact List.eq_nil_of_length_eq_zero this
    subst hL
    have hcl := wk.cl
    have hce : (c : Int) = (ss.length : Int) := by
      by_cases z : c < ss.length
      · have := wk.full z; simp at this; omega
      · omega
    refine ⟨_, rfl, W, _, rfl, wk.at', rfl, _, rfl, iteD rfl ⟨_, rfl, _, rfl, a, _, rfl, .inl (s4.seq hS), rfl, ?_⟩⟩
    show Q (V.bl (decide (V.int (c : Int) = V.int (((ss.map V.str).length : Nat) : Int)))) H4
    rw [show decide (V.int (c : Int) = V.int (((ss.map V.str).length : Nat) : Int)) = true from decide_eq_true (by rw [hl, hce])]
    exact q H4 s4
theorem cut_last {α : Type} (f : α → V) (xs : List α) : cutV (xs.map f) none (some (-1)) = xs.dropLast.map f := by
  unfold cutV
  rw [HT.sIx_none, List.drop_zero, Nat.sub_zero, ← List.map_take, List.length_map]
  have e : HT.sIx xs.length xs.length (some (-1)) = xs.length - 1 := by
    show (if (-1 : Int) < 0 then ((-1 : Int) + (xs.length : Int)).toNat else min (-1 : Int).toNat xs.length) = _
    rw [if_pos (by omega)]; omega
  rw [e, List.dropLast_eq_take]
theorem cut_toS (ss : List Str) (d : Nat) : cutV (ss.map V.str) none (some (d : Int)) = (ss.take d).map V.str := by
  unfold cutV
  rw [HT.sIx_nat, HT.sIx_none, List.drop_zero, Nat.sub_zero, ← List.map_take, List.length_map]
  by_cases h : d ≤ ss.length
  · rw [Nat.min_eq_left h]
  · rw [Nat.min_eq_right (by omega), List.take_of_length_le (Nat.le_refl _), List.take_of_length_le (by omega)]
def kvP (d : List Int) (i : Nat) : List (Key × V) := d.map fun n => (.inl n, .int (i : Int))
theorem merge_at (i : Nat) (m : Int) : ∀ (d : List Int) (kvs : List (Key × V)), valV (mergeK kvs (kvP d i)) (.inl m) = if m ∈ d then some (.int (i : Int)) else valV kvs (.inl m)
  | [], kvs => by rw [if_neg (by simp)]; rfl
  | n :: r, kvs => by
    have ih := merge_at i m r (putK kvs (.inl n) (.int (i : Int)))
    show valV (mergeK (putK kvs (.inl n) (.int (i : Int))) (kvP r i)) (.inl m) = _
    rw [ih, valV_put]
    by_cases h1 : m ∈ r
    · rw [if_pos h1, if_pos (List.mem_cons_of_mem _ h1)]
    · rw [if_neg h1]
      by_cases h2 : m = n
      · rw [if_pos (by rw [h2]), if_pos (by rw [h2]; simp)]
      · rw [if_neg (fun z => h2 (Sum.inl.inj z)), if_neg (by simp [h1, h2])]
/-- the places, as the law keeps them -/
def Pl (R : List (List Int)) (i : Nat) (kvs : List (Key × V)) : Prop := ∀ m : Int, (∃ d ∈ R.take i, m ∈ d) → ∃ (j : Nat) (d : List Int), R[j]? = some d ∧ m ∈ d ∧ valV kvs (.inl m) = some (.int (j : Int))
theorem Pl.next {R : List (List Int)} {i : Nat} {kvs : List (Key × V)} {d : List Int} (h : Pl R i kvs) (hd : R[i]? = some d) : Pl R (i + 1) (mergeK kvs (kvP d i)) := fun m hm => by
  rw [List.take_add_one, hd] at hm
  by_cases h1 : m ∈ d
  · exact ⟨i, d, hd, h1, by rw [merge_at, if_pos h1]⟩
  · obtain ⟨e, he, hme⟩ := hm
    rcases List.mem_append.mp he with he | he
    · obtain ⟨j, d', a, b, c⟩ := h m ⟨e, he, hme⟩
      exact ⟨j, d', a, b, by rw [merge_at, if_neg h1]; exact c⟩
    · have : e = d := by simpa using he
      exact absurd (this ▸ hme) h1
def spLikes (K : PySem.W.Frag) : Sp := fun vs H Q _ => ∃ (a r : Addr) (ss : List Str) (ls : List Addr) (R : List (List Int)), vs = [.ref a, .ref r] ∧ SqL K H a (ss.map V.str) ∧ ss.length ≤ 60 ∧ (∀ s ∈ ss, s.length ≤ 28 ∧ AZ s) ∧ H r = some (.lst (ls.map V.ref)) ∧ Rd H ls R ∧
  R.length ≤ 100 ∧ (∀ d ∈ R, d.length ≤ 100) ∧ R.Pairwise (Apart ss) ∧ (∀ m : Int, 0 ≤ m → m < ss.length → ∃ d ∈ R, m ∈ d) ∧ ∀ H', Same H H' → Q (.bl true) H'
theorem ok_likes (T : Tops K mg) : Df P w K mg base 1 "_law_like_ones_right" ["_law_things_here", "_law_told"] (spLikes K) := by
  refine T.t_l_like_ones_right.df sc_l_like_ones_right (fun vs H Q E h => ?_) (fun cdv f A outer s H vs Q E hr h => ?_)
  · obtain ⟨a, r, ss, ls, R, rfl, _⟩ := h
    rfl
  obtain ⟨a, r, ss, ls, R, rfl, hS, h60, h28, hrl, hrd, hR1, hR2, hpw, hall, q⟩ := h
  refine ⟨_, (@pss_cons _ _ _ _ _ (@ps_set _ _ 2 _ _ _ _ sc_l_like_ones_right.nd rfl (Or.inr rfl) (@pe_callTy _ _ _ _ _ _ _ _ _ (dictP K) (by rfl) T.b.n_dict boot_dict (@pa_cons _ _ _ _ _ (@pe_lst _ _ _ _ (@pa_nil _)) (@pa_nil _) (by rfl)) (by decide) (by decide) (by rfl) (by rfl)) (by rfl) (by first | exact .inl rfl | exact .inr rfl)) (@pss_cons _ _ _ _ _ (@ps_for _ _ _ _ _ _ _ _ PassesOwn.never rfl (@iE _ K _ _ _ _ _ _ _ T.b.n_enumerate (@pa_cons _ _ _ _ _ (@pv _ 1 _ _ (by rfl) (Or.inl rfl) (by decide) (by decide)) (@pa_nil _) (by rfl)) (by rfl) (by rfl) (by rfl)) (@gT _ K _ _ _ 2 _ (@pgs_cons _ _ _ _ _ (@pg_name _ _ 3 _ sc_l_like_ones_right.nd rfl (Or.inr rfl) (by first | exact .inl rfl | exact .inr rfl)) (@pgs_cons _ _ _ _ _ (@pg_name _ _ 4 _ sc_l_like_ones_right.nd rfl (Or.inl rfl) (by first | exact .inl rfl | exact .inr rfl)) (@pgs_nil _) (by rfl)) (by rfl)) (by rfl) (by rfl) (by rfl) (by rfl)) (@pss_one _ _ _ (@ps_expr _ _ _ _ (@pe_bm _ _ _ _ _ _ _ _ _ _ _ _ PySem.F.plainAttrs_dict PySem.F.slot_dict_update PySem.F.type_dict_update (dUpdQ K) (@pv _ 2 _ _ (by rfl) (Or.inr (Or.inl rfl)) (by decide) (by decide)) (@pa_cons _ _ _ _ _ (@pe_comp _ _ _ _ _ _ _ _ _ _ _ _ _ _ cs_5 rfl rfl rfl (@iL _ K _ _ _ (@pv _ 4 _ _ (by rfl) (Or.inl rfl) (by decide) (by decide)) (by rfl)) (fun _ _ _ _ => (@cg _ _ _ _ _ _ _ _ _ _ _ 7 cs_5 rfl (by decide +kernel) (by rfl))) (fun _ _ _ _ => (@pts_nil _)) (fun _ _ _ _ => (@pe_tup _ _ _ _ _ (@pa_cons _ _ _ _ _ (@cw _ _ _ _ _ _ _ _ _ _ _ 7 cs_5 rfl (by decide +kernel) (by rfl) (by decide) (by decide)) (@pa_cons _ _ _ _ _ (@cv _ _ _ _ _ _ _ _ _ _ _ 3 cs_5 rfl (by decide +kernel) (by rfl) (by decide) (by decide)) (@pa_nil _) (by rfl)) (by rfl)))) (by intro _; rfl)) (@pa_nil _) (by rfl)) (by rfl) (by rfl) (by rfl) (by rfl) (by rfl)) (by rfl))) (by intro _; rfl)) (@pss_cons _ _ _ _ _ (@ps_for _ _ _ _ _ _ _ _ PassesOwn.never rfl (@iE _ K _ _ _ _ _ _ _ T.b.n_enumerate (@pa_cons _ _ _ _ _ (@pv _ 0 _ _ (by rfl) (Or.inr (Or.inl rfl)) (by decide) (by decide)) (@pa_nil _) (by rfl)) (by rfl) (by rfl) (by rfl)) (@gT _ K _ _ _ 2 _ (@pgs_cons _ _ _ _ _ (@pg_name _ _ 5 _ sc_l_like_ones_right.nd rfl (Or.inr rfl) (by first | exact .inl rfl | exact .inr rfl)) (@pgs_cons _ _ _ _ _ (@pg_name _ _ 6 _ sc_l_like_ones_right.nd rfl (Or.inr rfl) (by first | exact .inl rfl | exact .inr rfl)) (@pgs_nil _) (by rfl)) (by rfl)) (by rfl) (by rfl) (by rfl) (by rfl)) (@pss_one _ _ _ (@ps_if _ _ _ _ _ _ _ _ (@pt_val _ _ _ (@pe_callB _ _ _ _ _ _ _ _ _ (anyQ K) (by rfl) T.b.n_any boot_any (@pa_cons _ _ _ _ _ (@pe_comp _ _ _ _ _ _ _ _ _ _ _ _ _ _ cs_6 rfl rfl rfl (@pi_range1 _ _ _ _ _ _ rfl T.b.n_range (@pa_cons _ _ _ _ _ (@pv _ 5 _ _ (by rfl) (Or.inr (Or.inl rfl)) (by decide) (by decide)) (@pa_nil _) (by rfl)) (by rfl)) (fun _ _ _ _ => (@cg _ _ _ _ _ _ _ _ _ _ _ 7 cs_6 rfl (by decide +kernel) (by rfl))) (fun _ _ _ _ => (@pts_nil _)) (fun _ _ _ _ => (@pe_and _ _ _ _ _ _ _ (@pe_cmpR _ _ _ _ _ _ _ _ op_eq (@pe_ix _ _ _ _ _ _ _ (ixL K) (@cv _ _ _ _ _ _ _ _ _ _ _ 0 cs_6 rfl (by decide +kernel) (by rfl) (by decide) (by decide)) (@cw _ _ _ _ _ _ _ _ _ _ _ 7 cs_6 rfl (by decide +kernel) (by rfl) (by decide) (by decide)) (fun _ _ => rfl)) (@cv _ _ _ _ _ _ _ _ _ _ _ 6 cs_6 rfl (by decide +kernel) (by rfl) (by decide) (by decide)) (nomark _)) (@pe_one _ _ _ _ _ (@pe_cmpR _ _ _ _ _ _ _ _ op_gt (@pe_ix _ _ _ _ _ _ _ (ixG hr) (@cv _ _ _ _ _ _ _ _ _ _ _ 2 cs_6 rfl (by decide +kernel) (by rfl) (by decide) (by decide)) (@cw _ _ _ _ _ _ _ _ _ _ _ 7 cs_6 rfl (by decide +kernel) (by rfl) (by decide) (by decide)) (fun _ _ => rfl)) (@pe_ix _ _ _ _ _ _ _ (ixG hr) (@cv _ _ _ _ _ _ _ _ _ _ _ 2 cs_6 rfl (by decide +kernel) (by rfl) (by decide) (by decide)) (@cv _ _ _ _ _ _ _ _ _ _ _ 5 cs_6 rfl (by decide +kernel) (by rfl) (by decide) (by decide)) (fun _ _ => rfl)) (nomark _))))) (by intro _; rfl)) (@pa_nil _) (by rfl)) (by decide) (by decide) (by rfl) (by rfl)) (by intro _; rfl)) (@pss_one _ _ _ (@ps_ret _ _ _ _ (@pe_bl _ _ _ _))) (@pss_nil _))) (by intro _; rfl)) (@pss_one _ _ _ (@ps_ret _ _ _ _ (@pe_bl _ _ _ _)))))), ?_⟩
  refine ⟨(by show 0 ≤ sizeLine; decide), fun D hD => ?_⟩
  refine ⟨D, [], rfl, SqL.of upd_same, (fun t h => by cases h), by decide, fun W hW => ?_⟩
  have hW0 : H W = none := (same_new hD (.lst [])).free hW
  have s3 : Same H (upd (upd H D (.lst [])) W (.dK [])) := (same_new hD _).trans (same_new hW _)
  have hW3 : (upd (upd H D (.lst [])) W (.dK [])) W = some (.dK []) := upd_same
  show _ 
  have hrlen : ls.length = R.length := hrd.len
  refine ⟨_, rfl, r, _, rfl, SqL.of (s3 _ _ hrl), ?_⟩
  refine for_enum (K := K) (a := r) (xs := ls.map V.ref) (fun i σ H4 => ∃ (kvs : List (Key × V)) (v3 v4 v5 v6 : Option V), σ = [some (.ref a), some (.ref r), some (.ref W), v3, v4, v5, v6] ∧ Same H H4 ∧ H4 W = some (.dK kvs) ∧ Pl R i kvs ∧ kvs.length ≤ 100 * i ∧ i ≤ R.length) ⟨[], _, _, _, _, rfl, s3, hW3, fun m ⟨d, hd, _⟩ => (by simp at hd), Nat.zero_le _, Nat.zero_le _⟩ (fun i σ H4 ⟨_, _, _, _, _, _, s4, _⟩ => SqL.of (s4 _ _ hrl)) ?_ ?_
  · rintro i x σ H4 p hx ⟨kvs, v3, v4, v5, v6, rfl, s4, hW4, hpl, hkl, hiR⟩ hp
    rw [List.getElem?_map] at hx
    cases hz : ls[i]? with
    | none => rw [hz] at hx; cases hx
    | some l =>
    rw [hz] at hx
    cases hx
    have hil : i < R.length := by rw [← hrlen]; exact (List.getElem?_eq_some_iff.mp hz).1
    obtain ⟨d, hd, hld⟩ := hrd.at hz
    have hd100 := hR2 d (List.mem_of_getElem? hd)
    have sp := same_new hp (.tup [.int (i : Int), .ref l])
    have hp5 : (upd H4 p (.tup [.int (i : Int), .ref l])) p = some (.tup [.int (i : Int), .ref l]) := upd_same
    have s5 := s4.trans sp
    have hW5 := sp _ _ hW4
    generalize upd H4 p (.tup [.int (i : Int), .ref l]) = H5 at hp5 s5 hW5 ⊢
    refine ⟨p, _, rfl, SqT.of hp5, rfl, _, _, rfl, _, _, rfl, rfl, ?_⟩
    refine ⟨_, rfl, .inr (.inr (.inl ⟨rfl, .inl ⟨_, hW5⟩⟩)), _, rfl, l, rfl, ⟨_, SqL.of (s5 _ _ hld)⟩, fun D2 hD2 => ?_⟩
    refine comp_list (K := K) (a := l) (xs := d.map V.int) (fun j zs σ H6 => (∃ v : Option V, σ = [some (.ref a), some (.ref r), some (.ref W), some (.int (i : Int)), some (.ref l), v5, v6, v]) ∧ (∃ ts : List (Addr × Key × V), zs = ts.map (fun t => V.ref t.1) ∧ (∀ t ∈ ts, H6 t.1 = some (.tup [kV t.2.1, t.2.2])) ∧ ts.map (·.2) = kvP (d.take j) i) ∧ j ≤ d.length ∧ H6 D2 = some (.lst zs) ∧ Same H5 H6) ?_ (fun _ _ _ _ h => SqL.of (h.2.2.2.2 _ _ (s5 _ _ hld))) ?_ ?_
    · exact ⟨⟨none, rfl⟩, ⟨[], rfl, (fun t h => by cases h), rfl⟩, Nat.zero_le _, upd_same, same_new hD2 _⟩
    · rintro j x zs σ H6 hx ⟨⟨v, rfl⟩, ⟨ts, rfl, hat, hE⟩, hj, hD6, s6⟩
      rw [List.getElem?_map] at hx
      cases hz2 : d[j]? with
      | none => rw [hz2] at hx; cases hx
      | some n =>
      rw [hz2] at hx
      cases hx
      have hjl : j < d.length := (List.getElem?_eq_some_iff.mp hz2).1
      refine ⟨_, rfl, _, rfl, (by show 2 ≤ sizeLine; decide), fun t ht0 => ?_⟩
      have sn := same_new ht0 (.tup [.int n, .int (i : Int)])
      have hD7 := sn _ _ hD6
      have nDn : D2 ≠ t := ne_of_none hD6 ht0
      have htl : ts.length = j := by have := congrArg List.length hE; unfold kvP at this; rw [List.length_map, List.length_map, List.length_take] at this; omega
      refine ⟨hD7, (by rw [List.length_map, htl]; exact small1000 (by omega)), ⟨_, rfl⟩, ⟨ts ++ [(t, .inl n, .int (i : Int))], by rw [List.map_append]; rfl, fun y hy => ?_, ?_⟩, hjl, upd_same, fun b o hb => ?_⟩
      · rcases List.mem_append.mp hy with hy | hy
        · exact tup_keep hD7 _ _ _ (sn _ _ (hat y hy))
        · rw [List.mem_singleton.mp hy, upd_ne nDn.symm]; exact upd_same
      · rw [List.map_append, hE, List.take_add_one, hz2]
        unfold kvP
        rw [List.map_append]; rfl
      · rw [upd_ne (ne_of_none hb hD2)]; exact sn _ _ (s6 b o hb)
    rintro zs σ H6 ⟨⟨v, rfl⟩, ⟨ts, rfl, hat, hE⟩, _, hD6, s6⟩
    rw [List.length_map, List.take_of_length_le (Nat.le_refl _)] at hE
    have htl : ts.length = d.length := by have := congrArg List.length hE; unfold kvP at this; rw [List.length_map, List.length_map] at this; exact this
    have hW6 := s6 _ _ hW5
    refine ⟨W, D2, kvs, ts, rfl, rfl, hW6, hD6, hat, by omega, by omega, ?_⟩
    rw [hE]
    refine ⟨_, _, _, _, _, rfl, fun b o hb => ?_, upd_same, hpl.next hd, ?_, hil⟩
    · rw [upd_ne (ne_of_none hb hW0)]; exact s6 _ _ (s5 b o hb)
    · have := length_mergeK (kvP d i) kvs
      unfold kvP at this ⊢
      rw [List.length_map] at this
      omega
  · rintro σ H4 ⟨kvs, v3, v4, v5, v6, rfl, s4, hW4, hpl, _, _⟩
    rw [List.length_map, hrlen] at hpl
    have hat : ∀ m : Int, 0 ≤ m → m < ss.length → ∃ (j : Nat) (d : List Int), R[j]? = some d ∧ m ∈ d ∧ valV kvs (.inl m) = some (.int (j : Int)) := fun m h0 hm => by
      obtain ⟨d, hd, hmd⟩ := hall m h0 hm
      exact hpl m ⟨d, by rw [List.take_of_length_le (Nat.le_refl _)]; exact hd, hmd⟩
    refine ⟨_, rfl, a, _, rfl, s4.seq hS, ?_⟩
    refine for_enum (K := K) (a := a) (xs := ss.map V.str) (fun i σ H5 => ∃ (w3 w4 w5 w6 : Option V), σ = [some (.ref a), some (.ref r), some (.ref W), w3, w4, w5, w6] ∧ Same H H5 ∧ H5 W = some (.dK kvs)) ⟨_, _, _, _, rfl, s4, hW4⟩ (fun i σ H5 ⟨_, _, _, _, _, s5, _⟩ => s5.seq hS) ?_ ?_
    · rintro i x σ H5 p hx ⟨w3, w4, w5, w6, rfl, s5, hW5⟩ hp
      rw [List.getElem?_map] at hx
      cases hz : ss[i]? with
      | none => rw [hz] at hx; cases hx
      | some y =>
      rw [hz] at hx
      cases hx
      have hil : i < ss.length := (List.getElem?_eq_some_iff.mp hz).1
      have hyk : ss.getD ((i : Int)).toNat "" = y := by rw [Int.toNat_natCast, List.getD_eq_getElem?_getD, hz]; rfl
      have sp := same_new hp (.tup [.int (i : Int), .str y])
      have hp6 : (upd H5 p (.tup [.int (i : Int), .str y])) p = some (.tup [.int (i : Int), .str y]) := upd_same
      have s6 := s5.trans sp
      have hW6 := sp _ _ hW5
      generalize upd H5 p (.tup [.int (i : Int), .str y]) = H6 at hp6 s6 hW6 ⊢
      refine ⟨p, _, rfl, SqT.of hp6, rfl, _, _, rfl, _, _, rfl, rfl, ?_⟩
      refine ⟨_, rfl, _, rfl, by omega, by omega, fun D2 hD2 => ?_⟩
      rw [Int.toNat_natCast]
      refine comp_range (fun j ys σ H7 => (∃ v : Option V, σ = [some (.ref a), some (.ref r), some (.ref W), w3, w4, some (.int (i : Int)), some (.str y), v]) ∧ ys = (List.replicate j false).map V.bl ∧ j ≤ i ∧ H7 D2 = some (.lst ys) ∧ Same H6 H7) ?_ ?_ ?_
      · exact ⟨⟨none, rfl⟩, rfl, Nat.zero_le _, upd_same, same_new hD2 _⟩
      · rintro j ys σ H7 hj ⟨⟨v, rfl⟩, rfl, _, hD7, s7⟩
        have hkj : atI (ss.map V.str) (0 + (j : Int)) = some (.str (ss.getD (0 + (j : Int)).toNat "")) := at_key (by omega) (by omega)
        have s07 := s6.trans s7
        have hW7 := s7 _ _ hW6
        have fin : ∀ z : V, z = V.bl false → H7 D2 = some (.lst ((List.replicate j false).map V.bl)) ∧ ((List.replicate j false).map V.bl).length < sizeLine ∧ (∃ v' : Option V, [some (.ref a), some (.ref r), some (.ref W), w3, w4, some (.int (i : Int)), some (.str y), some (V.int (0 + (j : Int)))] = [some (.ref a), some (.ref r), some (.ref W), w3, w4, some (.int (i : Int)), some (.str y), v']) ∧ (List.replicate j false).map V.bl ++ [z] = (List.replicate (j + 1) false).map V.bl ∧ j + 1 ≤ i ∧ (upd H7 D2 (.lst ((List.replicate j false).map V.bl ++ [z]))) D2 = some (.lst ((List.replicate j false).map V.bl ++ [z])) ∧ Same H6 (upd H7 D2 (.lst ((List.replicate j false).map V.bl ++ [z]))) := by
          rintro z rfl
          refine ⟨hD7, (by rw [List.length_map, List.length_replicate]; exact small1000 (by omega)), ⟨_, rfl⟩, ?_, hj, upd_same, fun b o hb => ?_⟩
          · rw [List.replicate_succ', List.map_append]; rfl
          · rw [upd_ne (ne_of_none hb hD2)]; exact s7 b o hb
        refine ⟨_, rfl, _, rfl, a, _, _, _, rfl, rfl, s07.seq hS, hkj, _, rfl, rfl, _, rfl, ?_⟩
        by_cases hk : ss.getD (0 + (j : Int)).toNat "" = y
        · refine iteD (by rw [hk]) ?_
          obtain ⟨j1, d1, e1, m1, v1⟩ := hat (0 + (j : Int)) (by omega) (by omega)
          obtain ⟨j2, d2, e2, m2, v2⟩ := hat (i : Int) (by omega) (by omega)
          refine ⟨_, rfl, _, rfl, W, _, rfl, DGet.k' (k := .inl (0 + (j : Int))) hW7 v1, _, rfl, _, rfl, W, _, rfl, DGet.k' (k := .inl (i : Int)) hW7 v2, _, _, rfl, rfl, ?_⟩
          have hno : ¬ ((j2 : Int) < (j1 : Int)) := fun z => by
            obtain ⟨l1, g1⟩ := List.getElem?_eq_some_iff.mp e1
            obtain ⟨l2, g2⟩ := List.getElem?_eq_some_iff.mp e2
            have := List.pairwise_iff_getElem.mp hpw j2 j1 l2 l1 (by omega)
            rw [g1, g2] at this
            exact this _ m2 _ m1 (by omega) (by rw [hk, hyk])
          exact fin _ (congrArg V.bl (decide_eq_false hno))
        · refine iteDN (fun z => hk (by injection z)) ?_
          exact fin _ rfl
      rintro ys σ H7 ⟨⟨v, rfl⟩, rfl, _, hD7, s7⟩
      refine ⟨D2, _, rfl, SqL.of hD7, _, rfl, ?_⟩
      rw [show ((List.replicate i false).any id) = false by simp]
      exact iteF ⟨_, _, _, _, rfl, s6.trans s7, s7 _ _ hW6⟩
    · rintro σ H5 ⟨w3, w4, w5, w6, rfl, s5, _⟩
      exact q H5 s5
theorem Rd.good {H : Hp} {ls : List Addr} {ds : List (List Int)} (h : Rd H ls ds) {l : Addr} (hl : l ∈ ls) : ∃ d, d ∈ ds ∧ H l = some (.lst (d.map V.int)) := by
  obtain ⟨k, hk⟩ := List.mem_iff_getElem?.mp hl
  obtain ⟨d, h1, h2⟩ := h.at hk
  exact ⟨d, List.mem_of_getElem? h1, h2⟩
theorem Rd.all {H : Hp} {ls : List Addr} {ds : List (List Int)} (h : Rd H ls ds) {l : Addr} (hl : l ∈ ls.dropLast) : ∃ d, d ∈ ds.dropLast ∧ H l = some (.lst (d.map V.int)) := by
  obtain ⟨k, hk⟩ := List.mem_iff_getElem?.mp hl
  have hkl := (List.getElem?_eq_some_iff.mp hk).1
  rw [List.dropLast_eq_take, List.getElem?_take_of_lt (by rw [List.length_dropLast] at hkl; exact hkl)] at hk
  obtain ⟨d, h1, h2⟩ := h.at hk
  refine ⟨d, ?_, h2⟩
  rw [List.length_dropLast] at hkl
  rw [List.dropLast_eq_take]
  refine List.mem_of_getElem? (i := k) ?_
  rw [List.getElem?_take_of_lt (by rw [← h.len]; exact hkl)]
  exact h1
--SPLIT
def spLaw (K : PySem.W.Frag) : Sp := fun vs H Q _ => ∃ (a : Addr) (ns : List Int), vs = [.ref a] ∧ SqL K H a (ns.map V.int) ∧ ns.length ≤ 63 ∧ ∀ H', Q (.bl true) H'
theorem ok_law {f : Addr} {fd : FuncData} (F : Fun K "law" "law" st_law f fd) (T : Tops K mg) : FnOk P w K mg base CX0 8 f fd ["_law_script"] (spLaw K) := by
  have f_l_mix : Df P w K mg base 1 "_law_mix" ["_law_cell", "_law_k"] spMix := ok_mix T
  have f_l_left : Df P w K mg base 1 "_law_left" ["_law_script", "_law_k"] (spLeft K) := ok_left T
  have f_l_pick : Df P w K mg base 2 "_law_pick" ["_law_left_here", "_law_many"] spPick := ok_pick T f_l_mix
  have f_l_stems : Df P w K mg base 3 "_law_stems" ["_law_left_here"] spStems := ok_stems T f_l_pick
  have f_l_key : Df P w K mg base 3 "_law_key" ["_law_left_here", "_law_stems_here"] spKey := ok_key T f_l_pick
  have f_l_things : Df P w K mg base 4 "_law_things" ["_law_left_here"] spThings := ok_things T f_l_pick f_l_stems f_l_key
  have f_l_room : Df P w K mg base 3 "_law_room" ["_law_left_here"] spRoom := ok_room T f_l_pick
  have f_liken : Df P w K mg base 3 "liken" ["one", "other"] spLiken := ok_liken T (ok_alike T (ok_alike_from T)) (ok_order T)
  have f_run_behind : Df P w K mg base 4 "run_behind" ["run", "key", "comer"] spBehind := ok_behind T f_liken
  have f_runs_of : Df P w K mg base 5 "runs_of" ["things", "room"] (spRuns K) := ok_runs T f_run_behind
  have f_is_run : Df P w K mg base 2 "is_run" ["things", "thing"] (spIsRun K) := ok_is_run T (ok_num T)
  have f_l_walked : Df P w K mg base 1 "_law_walked" ["_law_things_here", "_law_room_here", "_law_told"] (spWalked K) := ok_walked T
  have f_l_like_ones_right : Df P w K mg base 1 "_law_like_ones_right" ["_law_things_here", "_law_told"] (spLikes K) := ok_likes T
  refine F.ok sc_law (fun vs H Q E h => ?_) (fun cdv A outer s H vs Q E hr h => ?_)
  · obtain ⟨a, ns, rfl, _⟩ := h
    rfl
  obtain ⟨a, ns, rfl, hS, h63, q⟩ := h
  refine ⟨_, (@pss_cons _ _ _ _ _ (@ps_for _ _ _ _ _ _ _ _ PassesOwn.never rfl (@pi_range1 _ _ _ _ _ _ rfl T.b.n_range (@pa_cons _ _ _ _ _ (@pe_op _ _ _ _ _ _ _ _ op_add (@pe_int _ _ _ _) (@pe_callB _ _ _ _ _ _ _ _ _ (call_min2 rfl) (by rfl) T.b.n_min boot_min (@pa_cons _ _ _ _ _ (@pe_int _ _ _ _) (@pa_cons _ _ _ _ _ (@pe_callB _ _ _ _ _ _ _ _ _ (lenQ K) (by rfl) T.b.n_len PySem.boot_len (@pa_cons _ _ _ _ _ (@pv _ 0 _ _ (by rfl) (Or.inl rfl) (by decide) (by decide)) (@pa_nil _) (by rfl)) (by decide) (by decide) (by rfl) (by rfl)) (@pa_nil _) (by rfl)) (by rfl)) (by decide) (by decide) (by rfl) (by rfl))) (@pa_nil _) (by rfl)) (by rfl)) (@pg_name _ _ 1 _ sc_law.nd rfl (Or.inl rfl) (by first | exact .inl rfl | exact .inr rfl)) (@pss_cons _ _ _ _ _ (@ps_set _ _ 2 _ _ _ _ sc_law.nd rfl (Or.inl rfl) (@pe_df _ _ _ _ _ _ _ _ _ _ _ f_l_left hr (@pa_cons _ _ _ _ _ (@pv _ 0 _ _ (by rfl) (Or.inl rfl) (by decide) (by decide)) (@pa_cons _ _ _ _ _ (@pv _ 1 _ _ (by rfl) (Or.inl rfl) (by decide) (by decide)) (@pa_nil _) (by rfl)) (by rfl)) (by first | decide | exact Nat.le_refl _ | omega) (by rfl) (by decide) (by rfl) (by rfl)) (by rfl) (by first | exact .inl rfl | exact .inr rfl)) (@pss_cons _ _ _ _ _ (@ps_asg _ _ _ _ _ _ (@pe_tup _ _ _ _ _ (@pa_cons _ _ _ _ _ (@pe_df _ _ _ _ _ _ _ _ _ _ _ f_l_things hr (@pa_cons _ _ _ _ _ (@pv _ 2 _ _ (by rfl) (Or.inl rfl) (by decide) (by decide)) (@pa_nil _) (by rfl)) (by first | decide | exact Nat.le_refl _ | omega) (by rfl) (by decide) (by rfl) (by rfl)) (@pa_cons _ _ _ _ _ (@pe_df _ _ _ _ _ _ _ _ _ _ _ f_l_room hr (@pa_cons _ _ _ _ _ (@pv _ 2 _ _ (by rfl) (Or.inl rfl) (by decide) (by decide)) (@pa_nil _) (by rfl)) (by first | decide | exact Nat.le_refl _ | omega) (by rfl) (by decide) (by rfl) (by rfl)) (@pa_nil _) (by rfl)) (by rfl))) (@gT _ K _ _ _ 2 _ (@pgs_cons _ _ _ _ _ (@pg_name _ _ 3 _ sc_law.nd rfl (Or.inr rfl) (by first | exact .inl rfl | exact .inr rfl)) (@pgs_cons _ _ _ _ _ (@pg_name _ _ 4 _ sc_law.nd rfl (Or.inr rfl) (by first | exact .inl rfl | exact .inr rfl)) (@pgs_nil _) (by rfl)) (by rfl)) (by rfl) (by rfl) (by rfl) (by rfl)) (by rfl) (by rfl) (by rfl)) (@pss_cons _ _ _ _ _ (@ps_set _ _ 5 _ _ _ _ sc_law.nd rfl (Or.inl rfl) (@pe_df _ _ _ _ _ _ _ _ _ _ _ f_runs_of hr (@pa_cons _ _ _ _ _ (@pv _ 3 _ _ (by rfl) (Or.inr (Or.inl rfl)) (by decide) (by decide)) (@pa_cons _ _ _ _ _ (@pv _ 4 _ _ (by rfl) (Or.inr (Or.inl rfl)) (by decide) (by decide)) (@pa_nil _) (by rfl)) (by rfl)) (by first | decide | exact Nat.le_refl _ | omega) (by rfl) (by decide) (by rfl) (by rfl)) (by rfl) (by first | exact .inl rfl | exact .inr rfl)) (@pss_cons _ _ _ _ _ (@ps_if _ _ _ _ _ _ _ _ (@PW.pt _ _ _ (@pw_or _ _ _ _ _ _ _ (@pt_not _ _ _ _ (@pt_val _ _ _ (@pe_df _ _ _ _ _ _ _ _ _ _ _ f_l_walked hr (@pa_cons _ _ _ _ _ (@pv _ 3 _ _ (by rfl) (Or.inr (Or.inl rfl)) (by decide) (by decide)) (@pa_cons _ _ _ _ _ (@pv _ 4 _ _ (by rfl) (Or.inr (Or.inl rfl)) (by decide) (by decide)) (@pa_cons _ _ _ _ _ (@pv _ 5 _ _ (by rfl) (Or.inl rfl) (by decide) (by decide)) (@pa_nil _) (by rfl)) (by rfl)) (by rfl)) (by first | decide | exact Nat.le_refl _ | omega) (by rfl) (by decide) (by rfl) (by rfl)) (by intro _; rfl))) (@pw_or1 _ _ _ _ (@pt_not _ _ _ _ (@pt_val _ _ _ (@pe_df _ _ _ _ _ _ _ _ _ _ _ f_l_like_ones_right hr (@pa_cons _ _ _ _ _ (@pv _ 3 _ _ (by rfl) (Or.inr (Or.inl rfl)) (by decide) (by decide)) (@pa_cons _ _ _ _ _ (@pv _ 5 _ _ (by rfl) (Or.inl rfl) (by decide) (by decide)) (@pa_nil _) (by rfl)) (by rfl)) (by first | decide | exact Nat.le_refl _ | omega) (by rfl) (by decide) (by rfl) (by rfl)) (by intro _; rfl)))))) (@pss_one _ _ _ (@ps_ret _ _ _ _ (@pe_bl _ _ _ _))) (@pss_nil _)) (@pss_cons _ _ _ _ _ (@ps_if _ _ _ _ _ _ _ _ (@pt_not _ _ _ _ (@pt_val _ _ _ (@pe_callB _ _ _ _ _ _ _ _ _ (allQ K) (by rfl) T.b.n_all boot_all (@pa_cons _ _ _ _ _ (@pe_comp _ _ _ _ _ _ _ _ _ _ _ _ _ _ cs_7 rfl rfl rfl (@iL _ K _ _ _ (@pv _ 5 _ _ (by rfl) (Or.inl rfl) (by decide) (by decide)) (by rfl)) (fun _ _ _ _ => (@cg _ _ _ _ _ _ _ _ _ _ _ 6 cs_7 rfl (by decide +kernel) (by rfl))) (fun _ _ _ _ => (@pts_nil _)) (fun _ _ _ _ => (@pe_df _ _ _ _ _ _ _ _ _ _ _ f_is_run hr (@pa_cons _ _ _ _ _ (@cv _ _ _ _ _ _ _ _ _ _ _ 3 cs_7 rfl (by decide +kernel) (by rfl) (by decide) (by decide)) (@pa_cons _ _ _ _ _ (@cw _ _ _ _ _ _ _ _ _ _ _ 6 cs_7 rfl (by decide +kernel) (by rfl) (by decide) (by decide)) (@pa_nil _) (by rfl)) (by rfl)) (by first | decide | exact Nat.le_refl _ | omega) (comp_glob cs_7 rfl (by decide +kernel)) (by decide) (by rfl) (by rfl))) (by intro _; rfl)) (@pa_nil _) (by rfl)) (by decide) (by decide) (by rfl) (by rfl)) (by intro _; rfl))) (@pss_one _ _ _ (@ps_ret _ _ _ _ (@pe_bl _ _ _ _))) (@pss_nil _)) (@pss_one _ _ _ (@ps_if _ _ _ _ _ _ _ _ (@PW.pt _ _ _ (@pw_or _ _ _ _ _ _ _ (@pt_val _ _ _ (@pe_callB _ _ _ _ _ _ _ _ _ (anyQ K) (by rfl) T.b.n_any boot_any (@pa_cons _ _ _ _ _ (@pe_comp _ _ _ _ _ _ _ _ _ _ _ _ _ _ cs_8 rfl rfl rfl (@iL _ K _ _ _ (@pe_slice _ _ _ _ _ _ _ _ _ _ (slL K) (@pv _ 5 _ _ (by rfl) (Or.inl rfl) (by decide) (by decide)) (@po_none _) (@po_some _ _ _ (@pe_un _ _ _ _ _ _ un_neg (@pe_int _ _ _ _)))) (by rfl)) (fun _ _ _ _ => (@cg _ _ _ _ _ _ _ _ _ _ _ 6 cs_8 rfl (by decide +kernel) (by rfl))) (fun _ _ _ _ => (@pts_nil _)) (fun _ _ _ _ => (@pe_cmpR _ _ _ _ _ _ _ _ op_lt (@pe_callB _ _ _ _ _ _ _ _ _ (lenQ K) (comp_glob cs_8 rfl (by decide +kernel)) T.b.n_len PySem.boot_len (@pa_cons _ _ _ _ _ (@cw _ _ _ _ _ _ _ _ _ _ _ 6 cs_8 rfl (by decide +kernel) (by rfl) (by decide) (by decide)) (@pa_nil _) (by rfl)) (by decide) (by decide) (by rfl) (by rfl)) (@cv _ _ _ _ _ _ _ _ _ _ _ 4 cs_8 rfl (by decide +kernel) (by rfl) (by decide) (by decide)) (nomark _))) (by intro _; rfl)) (@pa_nil _) (by rfl)) (by decide) (by decide) (by rfl) (by rfl)) (by intro _; rfl)) (@pw_or1 _ _ _ _ (@pt_cmpR _ _ _ _ _ _ _ _ op_gt (@pe_callB _ _ _ _ _ _ _ _ _ (lenQ K) (by rfl) T.b.n_len PySem.boot_len (@pa_cons _ _ _ _ _ (@pe_df _ _ _ _ _ _ _ _ _ _ _ f_runs_of hr (@pa_cons _ _ _ _ _ (@pe_slice _ _ _ _ _ _ _ _ _ _ (slL K) (@pv _ 3 _ _ (by rfl) (Or.inr (Or.inl rfl)) (by decide) (by decide)) (@po_none _) (@po_some _ _ _ (@pv _ 4 _ _ (by rfl) (Or.inr (Or.inl rfl)) (by decide) (by decide)))) (@pa_cons _ _ _ _ _ (@pv _ 4 _ _ (by rfl) (Or.inr (Or.inl rfl)) (by decide) (by decide)) (@pa_nil _) (by rfl)) (by rfl)) (by first | decide | exact Nat.le_refl _ | omega) (by rfl) (by decide) (by rfl) (by rfl)) (@pa_nil _) (by rfl)) (by decide) (by decide) (by rfl) (by rfl)) (@pe_int _ _ _ _) (nomark _))))) (@pss_one _ _ _ (@ps_ret _ _ _ _ (@pe_bl _ _ _ _))) (@pss_nil _)))))))) (by intro _; rfl)) (@pss_one _ _ _ (@ps_ret _ _ _ _ (@pe_bl _ _ _ _)))), ?_⟩
  have hlen : (((ns.map V.int).length : Nat) : Int) = (ns.length : Int) := by rw [List.length_map]
  refine ⟨_, rfl, a, _, rfl, .inl hS, _, _, rfl, _, _, rfl, rfl, _, rfl, ?_, ?_, ?_⟩
  · split <;> omega
  · split <;> omega
  refine for_range (fun i σ H2 => ∃ v1 v2 v3 v4 v5 : Option V, σ = [some (.ref a), v1, v2, v3, v4, v5] ∧ Same H H2) ⟨_, _, _, _, _, rfl, Same.refl H⟩ ?_ ?_
  · rintro i σ H2 hi ⟨v1, v2, v3, v4, v5, rfl, s2⟩
    have hi9 : (i : Int) < 100 := by
      have : (i : Int) < (1 + (if (((ns.map V.int).length : Nat) : Int) < 5 then (((ns.map V.int).length : Nat) : Int) else 5)).toNat := by omega
      split at this <;> omega
    refine ⟨_, rfl, _, rfl, a, ns, _, rfl, s2.seq hS, h63, by omega, by omega, fun p H3 hp L3 s3 => ?_⟩
    have nHp : H p = none := s2.free hp
    have keep : ∀ {H5 H6 : Hp}, Same H H5 → But p H5 H6 → Same H H6 := fun {H5 H6} s b x o e => b x o (s x o e) (ne_of_none e nHp)
    refine ⟨_, rfl, p, 0, rfl, L3, by omega, fun t ss c5 H5 ht0 ht5 hn h28 L5 a1 a2 B5 => ?_⟩
    have s5 := keep (s2.trans s3) B5
    have h1000 : ∀ s ∈ ss, s.length ≤ 1000 := fun s hs => by have := (h28 s hs).1; omega
    have npt : t ≠ p := by obtain ⟨o, ho⟩ := L3.here; exact (ne_of_none ho ht0).symm
    refine ⟨_, rfl, p, c5, rfl, L5, by omega, fun v c6 H60 b1 b16 L60 hc6 hc6' B60 => ⟨(by show 2 ≤ sizeLine; decide), fun tq htq => ?_⟩⟩
    obtain ⟨rm, rfl⟩ : ∃ rm : Nat, v = (rm : Int) := ⟨v.toNat, by omega⟩
    have B6 := B60.trans (But.same (same_new htq (.tup [.ref t, .int (rm : Int)])))
    have htq6 : (upd H60 tq (.tup [.ref t, .int (rm : Int)])) tq = some (.tup [.ref t, .int (rm : Int)]) := upd_same
    generalize upd H60 tq (.tup [.ref t, .int (rm : Int)]) = H6 at B6 htq6 ⊢
    refine ⟨tq, _, rfl, SqT.of htq6, rfl, _, _, rfl, _, _, rfl, rfl, ?_⟩
    have s6 := keep s5 B6
    have ht6 := B6 t _ ht5 npt
    refine ⟨_, rfl, _, rfl, t, ss, rm, rfl, SqL.of ht6, by omega, h1000, by omega, fun r ls R H7 _ hr7 _ _ rd7 hR hRl hR100 s7 => ?_⟩
    have ht7 := s7 _ _ ht6
    have hgood := runs_good (by omega) hR
    refine ⟨_, rfl, _, rfl, _, rfl, t, r, ss, rm, ls, R, rfl, SqL.of ht7, hn, h28, by omega, by omega, hr7, rd7, hR, hgood, fun H8 s8 => ⟨_, rfl, iteF ?_⟩⟩
    have rd8 : Rd H8 ls R := Rd.mono (fun l _ o h => s8 _ _ h) rd7
    refine ⟨_, rfl, _, rfl, t, r, ss, ls, R, rfl, SqL.of (s8 _ _ ht7), hn, h28, s8 _ _ hr7, rd8, hRl, hR100, runs_like hR, runs_all (by omega) hR, fun H9 s9 => ⟨_, rfl, iteF ?_⟩⟩
    have s79 := s8.trans s9
    have rd9 : Rd H9 ls R := Rd.mono (fun l _ o h => s79 _ _ h) rd7
    have ht9 := s79 _ _ ht7
    have hr9 := s79 _ _ hr7
    have hlsl : ls.length ≤ 100 := by rw [rd7.len]; exact hRl
    refine ⟨_, rfl, r, rfl, ⟨_, SqL.of hr9⟩, fun D hD => ?_⟩
    refine comp_list (K := K) (a := r) (xs := ls.map V.ref) (fun i' ys σ H10 => (∃ v : Option V, σ = [some (.ref a), some (.int (0 + (i : Int))), some (.ref p), some (.ref t), some (.int (rm : Int)), some (.ref r), v]) ∧ ys = (List.replicate i' true).map V.bl ∧ i' ≤ ls.length ∧ H10 D = some (.lst ys) ∧ Same H9 H10) ?_ (fun _ _ _ _ h => SqL.of (h.2.2.2.2 _ _ hr9)) ?_ ?_
    · exact ⟨⟨none, rfl⟩, rfl, Nat.zero_le _, upd_same, same_new hD _⟩
    · rintro i' x ys σ H10 hx ⟨⟨v, rfl⟩, rfl, hi', hD10, s10⟩
      rw [List.getElem?_map] at hx
      cases hz : ls[i']? with
      | none => rw [hz] at hx; cases hx
      | some l =>
        rw [hz] at hx
        cases hx
        have hil : i' < ls.length := (List.getElem?_eq_some_iff.mp hz).1
        obtain ⟨d, hd, hl9⟩ := rd9.good (List.mem_of_getElem? hz)
        obtain ⟨g1, g2, g3⟩ := hgood d hd
        refine ⟨_, rfl, _, rfl, t, l, ss, d, true, rfl, SqL.of (s10 _ _ ht9), s10 _ _ hl9, hR100 d hd, g3, ⟨fun _ => ⟨g1, g2⟩, fun _ => rfl⟩, fun H11 s11 => ⟨s11 _ _ hD10, (by rw [List.length_map, List.length_replicate]; exact small1000 (by omega)), ⟨_, rfl⟩, ?_, hil, upd_same, fun b o hb => ?_⟩⟩
        · rw [List.replicate_succ', List.map_append]; rfl
        · rw [upd_ne (ne_of_none hb hD)]; exact s11 _ _ (s10 b o hb)
    rintro ys σ H10 ⟨⟨v, rfl⟩, rfl, _, hD10, s10⟩
    refine ⟨D, _, rfl, SqL.of hD10, _, rfl, ?_⟩
    rw [show ((List.replicate (ls.map V.ref).length true).all id) = true by rw [List.all_replicate]; simp]
    refine iteF ?_
    have ht10 := s10 _ _ ht9
    have hr10 := s10 _ _ hr9
    have rd10 : Rd H10 ls R := Rd.mono (fun l _ o h => s10 _ _ h) rd9
    have s010 : Same H H10 := ((s6.trans s7).trans s79).trans s10
    refine ⟨_, rfl, _, rfl, _, rfl, r, _, rfl, SqL.of hr10, fun sl hsl => ?_⟩
    rw [cut_last]
    have hsl11 : (upd H10 sl (.lst (ls.dropLast.map V.ref))) sl = some (.lst (ls.dropLast.map V.ref)) := upd_same
    have sn11 := same_new hsl (.lst (ls.dropLast.map V.ref))
    have s011 := s010.trans sn11
    have ht11 := sn11 _ _ ht10
    have rd11 : Rd (upd H10 sl (.lst (ls.dropLast.map V.ref))) ls R := Rd.mono (fun l _ o h => sn11 _ _ h) rd10
    generalize upd H10 sl (.lst (ls.dropLast.map V.ref)) = H11 at hsl11 s011 ht11 rd11 ⊢
    refine ⟨sl, rfl, ⟨_, SqL.of hsl11⟩, fun D2 hD2 => ?_⟩
    refine comp_list (K := K) (a := sl) (xs := ls.dropLast.map V.ref) (fun i' ys σ H12 => (∃ v : Option V, σ = [some (.ref a), some (.int (0 + (i : Int))), some (.ref p), some (.ref t), some (.int (rm : Int)), some (.ref r), v]) ∧ ys = (List.replicate i' false).map V.bl ∧ i' ≤ ls.dropLast.length ∧ H12 D2 = some (.lst ys) ∧ Same H11 H12) ?_ (fun _ _ _ _ h => SqL.of (h.2.2.2.2 _ _ hsl11)) ?_ ?_
    · exact ⟨⟨none, rfl⟩, rfl, Nat.zero_le _, upd_same, same_new hD2 _⟩
    · rintro i' x ys σ H12 hx ⟨⟨v, rfl⟩, rfl, hi', hD12, s12⟩
      rw [List.getElem?_map] at hx
      cases hz : ls.dropLast[i']? with
      | none => rw [hz] at hx; cases hx
      | some l =>
        rw [hz] at hx
        cases hx
        have hil : i' < ls.dropLast.length := (List.getElem?_eq_some_iff.mp hz).1
        have hdl : ls.dropLast.length ≤ ls.length := by rw [List.length_dropLast]; omega
        obtain ⟨d, hd, hl11⟩ := rd11.all (List.mem_of_getElem? hz)
        have hrm := runs_lens hR d hd
        refine ⟨_, rfl, l, _, rfl, .inl (SqL.of (s12 _ _ hl11)), _, rfl, _, _, rfl, rfl, ?_⟩
        have ef : V.bl (decide ((((d.map V.int).length : Nat) : Int) < (rm : Int))) = V.bl false := congrArg V.bl (decide_eq_false (by rw [List.length_map]; omega))
        refine ⟨hD12, (by rw [List.length_map, List.length_replicate]; exact small1000 (by omega)), ⟨_, rfl⟩, ?_, hil, upd_same, fun b o hb => ?_⟩
        · rw [List.replicate_succ', List.map_append]; exact congrArg (fun z => (List.replicate i' false).map V.bl ++ [z]) ef
        · rw [upd_ne (ne_of_none hb hD2)]; exact s12 b o hb
    rintro ys σ H12 ⟨⟨v, rfl⟩, rfl, _, hD12, s12⟩
    refine ⟨D2, _, rfl, SqL.of hD12, _, rfl, ?_⟩
    rw [show ((List.replicate (ls.dropLast.map V.ref).length false).any id) = false by simp]
    have s012 := s011.trans s12
    have ht12 := s12 _ _ ht11
    refine iteF ⟨_, rfl, _, rfl, _, rfl, t, _, rfl, SqL.of ht12, fun fw hfw => ?_⟩
    rw [cut_toS]
    have hfw13 : (upd H12 fw (.lst ((ss.take rm).map V.str))) fw = some (.lst ((ss.take rm).map V.str)) := upd_same
    have s013 := s012.trans (same_new hfw (.lst ((ss.take rm).map V.str)))
    generalize upd H12 fw (.lst ((ss.take rm).map V.str)) = H13 at hfw13 s013 ⊢
    have htk : (ss.take rm).length ≤ rm := by rw [List.length_take]; omega
    have htk2 : (ss.take rm).length ≤ 60 := by rw [List.length_take]; omega
    refine ⟨_, rfl, fw, ss.take rm, rm, rfl, SqL.of hfw13, htk2, (fun s hs => h1000 s (List.mem_of_mem_take hs)), by omega, fun r2 ls2 R2 H14 _ hr14 _ _ rd14 hRes2 _ _ s14 => ?_⟩
    have hone : R2.length ≤ 1 := res_few hRes2 rfl (by omega) rfl
    refine ⟨r2, _, rfl, .inl (SqL.of hr14), _, _, rfl, rfl, _, rfl, ?_⟩
    have hl2 : ls2.length ≤ 1 := by rw [rd14.len]; exact hone
    rw [show decide ((1 : Int) < (((ls2.map V.ref).length : Nat) : Int)) = false from decide_eq_false (by rw [List.length_map]; omega)]
    exact iteF ⟨_, _, _, _, _, rfl, s013.trans s14⟩
  · rintro σ H2 ⟨v1, v2, v3, v4, v5, rfl, s2⟩
    exact q _
end
theorem top_mk {K : PySem.W.Frag} {h : Heap} {mg : Str → Option Value} {x : Str} {st : Stmt} {ps : List Str} {f : Addr} {od an : Option Addr} {sl : Array (Option Value)} {oc kV dc pm cd ct : Value} (X : K.In h) (G : h.Ns mainGlobals mg)
    (a : PySem.W.nsIn K mainGlobals x = some (some (.ref f))) (l : K.lookup f = some ⟨oc, od, .func (PySem.W.fnOf x x (defArgs st) (defBody st) (defScope st) .none kV dc pm an cd ct), sl⟩) (c : PySem.W.codeIn K cd x = true) (k : PySem.W.keepIn K (.ref f) = true)
    (hb : ∀ (kV doc pm : Value) (an : Option Addr) (cdv ct : Value) (us : List Value), us.length = ps.length → bindArgs (PySem.W.fnOf x x (defArgs st) (defBody st) (defScope st) .none kV doc pm an cdv ct) ⟨us, []⟩ = pure (ps.zip us)) : Top K mg x st ps :=
  ⟨_, _, fun_mk (st := st) l c k, PySem.W.mg_of X G a, (fun_mk (st := st) l c k).binds hb⟩
theorem all_mk {l : PySem.W.OpenLaw} {w : World} {K : PySem.W.Frag} {h : Heap} {mg : Str → Option Value} {fa : Addr} (X : K.In h) (G : h.Ns mainGlobals mg) (hfa : mg "law" = some (.ref fa))
    {f0 : Addr} {od0 an0 : Option Addr} {sl0 : Array (Option Value)} {oc0 kV0 dc0 pm0 cd0 ct0 : Value}
    {f1 : Addr} {od1 an1 : Option Addr} {sl1 : Array (Option Value)} {oc1 kV1 dc1 pm1 cd1 ct1 : Value}
    {f2 : Addr} {od2 an2 : Option Addr} {sl2 : Array (Option Value)} {oc2 kV2 dc2 pm2 cd2 ct2 : Value}
    {f3 : Addr} {od3 an3 : Option Addr} {sl3 : Array (Option Value)} {oc3 kV3 dc3 pm3 cd3 ct3 : Value}
    {f4 : Addr} {od4 an4 : Option Addr} {sl4 : Array (Option Value)} {oc4 kV4 dc4 pm4 cd4 ct4 : Value}
    {f5 : Addr} {od5 an5 : Option Addr} {sl5 : Array (Option Value)} {oc5 kV5 dc5 pm5 cd5 ct5 : Value}
    {f6 : Addr} {od6 an6 : Option Addr} {sl6 : Array (Option Value)} {oc6 kV6 dc6 pm6 cd6 ct6 : Value}
    {f7 : Addr} {od7 an7 : Option Addr} {sl7 : Array (Option Value)} {oc7 kV7 dc7 pm7 cd7 ct7 : Value}
    {f8 : Addr} {od8 an8 : Option Addr} {sl8 : Array (Option Value)} {oc8 kV8 dc8 pm8 cd8 ct8 : Value}
    {f9 : Addr} {od9 an9 : Option Addr} {sl9 : Array (Option Value)} {oc9 kV9 dc9 pm9 cd9 ct9 : Value}
    {f10 : Addr} {od10 an10 : Option Addr} {sl10 : Array (Option Value)} {oc10 kV10 dc10 pm10 cd10 ct10 : Value}
    {f11 : Addr} {od11 an11 : Option Addr} {sl11 : Array (Option Value)} {oc11 kV11 dc11 pm11 cd11 ct11 : Value}
    {f12 : Addr} {od12 an12 : Option Addr} {sl12 : Array (Option Value)} {oc12 kV12 dc12 pm12 cd12 ct12 : Value}
    {f13 : Addr} {od13 an13 : Option Addr} {sl13 : Array (Option Value)} {oc13 kV13 dc13 pm13 cd13 ct13 : Value}
    {f14 : Addr} {od14 an14 : Option Addr} {sl14 : Array (Option Value)} {oc14 kV14 dc14 pm14 cd14 ct14 : Value}
    {f15 : Addr} {od15 an15 : Option Addr} {sl15 : Array (Option Value)} {oc15 kV15 dc15 pm15 cd15 ct15 : Value}
    {f16 : Addr} {od16 an16 : Option Addr} {sl16 : Array (Option Value)} {oc16 kV16 dc16 pm16 cd16 ct16 : Value}
    {f17 : Addr} {od17 an17 : Option Addr} {sl17 : Array (Option Value)} {oc17 kV17 dc17 pm17 cd17 ct17 : Value}
    (a0 : PySem.W.nsIn K mainGlobals "is_number" = some (some (.ref f0))) (l0 : K.lookup f0 = some ⟨oc0, od0, .func (PySem.W.fnOf "is_number" "is_number" (defArgs st_is_number) (defBody st_is_number) (defScope st_is_number) .none kV0 dc0 pm0 an0 cd0 ct0), sl0⟩) (c0 : PySem.W.codeIn K cd0 "is_number" = true) (k0 : PySem.W.keepIn K (.ref f0) = true)
    (a1 : PySem.W.nsIn K mainGlobals "alike" = some (some (.ref f1))) (l1 : K.lookup f1 = some ⟨oc1, od1, .func (PySem.W.fnOf "alike" "alike" (defArgs st_alike) (defBody st_alike) (defScope st_alike) .none kV1 dc1 pm1 an1 cd1 ct1), sl1⟩) (c1 : PySem.W.codeIn K cd1 "alike" = true) (k1 : PySem.W.keepIn K (.ref f1) = true)
    (a2 : PySem.W.nsIn K mainGlobals "liken" = some (some (.ref f2))) (l2 : K.lookup f2 = some ⟨oc2, od2, .func (PySem.W.fnOf "liken" "liken" (defArgs st_liken) (defBody st_liken) (defScope st_liken) .none kV2 dc2 pm2 an2 cd2 ct2), sl2⟩) (c2 : PySem.W.codeIn K cd2 "liken" = true) (k2 : PySem.W.keepIn K (.ref f2) = true)
    (a3 : PySem.W.nsIn K mainGlobals "alike_from" = some (some (.ref f3))) (l3 : K.lookup f3 = some ⟨oc3, od3, .func (PySem.W.fnOf "alike_from" "alike_from" (defArgs st_alike_from) (defBody st_alike_from) (defScope st_alike_from) .none kV3 dc3 pm3 an3 cd3 ct3), sl3⟩) (c3 : PySem.W.codeIn K cd3 "alike_from" = true) (k3 : PySem.W.keepIn K (.ref f3) = true)
    (a4 : PySem.W.nsIn K mainGlobals "order_at" = some (some (.ref f4))) (l4 : K.lookup f4 = some ⟨oc4, od4, .func (PySem.W.fnOf "order_at" "order_at" (defArgs st_order_at) (defBody st_order_at) (defScope st_order_at) .none kV4 dc4 pm4 an4 cd4 ct4), sl4⟩) (c4 : PySem.W.codeIn K cd4 "order_at" = true) (k4 : PySem.W.keepIn K (.ref f4) = true)
    (a5 : PySem.W.nsIn K mainGlobals "runs_of" = some (some (.ref f5))) (l5 : K.lookup f5 = some ⟨oc5, od5, .func (PySem.W.fnOf "runs_of" "runs_of" (defArgs st_runs_of) (defBody st_runs_of) (defScope st_runs_of) .none kV5 dc5 pm5 an5 cd5 ct5), sl5⟩) (c5 : PySem.W.codeIn K cd5 "runs_of" = true) (k5 : PySem.W.keepIn K (.ref f5) = true)
    (a6 : PySem.W.nsIn K mainGlobals "run_behind" = some (some (.ref f6))) (l6 : K.lookup f6 = some ⟨oc6, od6, .func (PySem.W.fnOf "run_behind" "run_behind" (defArgs st_run_behind) (defBody st_run_behind) (defScope st_run_behind) .none kV6 dc6 pm6 an6 cd6 ct6), sl6⟩) (c6 : PySem.W.codeIn K cd6 "run_behind" = true) (k6 : PySem.W.keepIn K (.ref f6) = true)
    (a7 : PySem.W.nsIn K mainGlobals "is_run" = some (some (.ref f7))) (l7 : K.lookup f7 = some ⟨oc7, od7, .func (PySem.W.fnOf "is_run" "is_run" (defArgs st_is_run) (defBody st_is_run) (defScope st_is_run) .none kV7 dc7 pm7 an7 cd7 ct7), sl7⟩) (c7 : PySem.W.codeIn K cd7 "is_run" = true) (k7 : PySem.W.keepIn K (.ref f7) = true)
    (a8 : PySem.W.nsIn K mainGlobals "_law_mix" = some (some (.ref f8))) (l8 : K.lookup f8 = some ⟨oc8, od8, .func (PySem.W.fnOf "_law_mix" "_law_mix" (defArgs st_l_mix) (defBody st_l_mix) (defScope st_l_mix) .none kV8 dc8 pm8 an8 cd8 ct8), sl8⟩) (c8 : PySem.W.codeIn K cd8 "_law_mix" = true) (k8 : PySem.W.keepIn K (.ref f8) = true)
    (a9 : PySem.W.nsIn K mainGlobals "_law_left" = some (some (.ref f9))) (l9 : K.lookup f9 = some ⟨oc9, od9, .func (PySem.W.fnOf "_law_left" "_law_left" (defArgs st_l_left) (defBody st_l_left) (defScope st_l_left) .none kV9 dc9 pm9 an9 cd9 ct9), sl9⟩) (c9 : PySem.W.codeIn K cd9 "_law_left" = true) (k9 : PySem.W.keepIn K (.ref f9) = true)
    (a10 : PySem.W.nsIn K mainGlobals "_law_pick" = some (some (.ref f10))) (l10 : K.lookup f10 = some ⟨oc10, od10, .func (PySem.W.fnOf "_law_pick" "_law_pick" (defArgs st_l_pick) (defBody st_l_pick) (defScope st_l_pick) .none kV10 dc10 pm10 an10 cd10 ct10), sl10⟩) (c10 : PySem.W.codeIn K cd10 "_law_pick" = true) (k10 : PySem.W.keepIn K (.ref f10) = true)
    (a11 : PySem.W.nsIn K mainGlobals "_law_stems" = some (some (.ref f11))) (l11 : K.lookup f11 = some ⟨oc11, od11, .func (PySem.W.fnOf "_law_stems" "_law_stems" (defArgs st_l_stems) (defBody st_l_stems) (defScope st_l_stems) .none kV11 dc11 pm11 an11 cd11 ct11), sl11⟩) (c11 : PySem.W.codeIn K cd11 "_law_stems" = true) (k11 : PySem.W.keepIn K (.ref f11) = true)
    (a12 : PySem.W.nsIn K mainGlobals "_law_key" = some (some (.ref f12))) (l12 : K.lookup f12 = some ⟨oc12, od12, .func (PySem.W.fnOf "_law_key" "_law_key" (defArgs st_l_key) (defBody st_l_key) (defScope st_l_key) .none kV12 dc12 pm12 an12 cd12 ct12), sl12⟩) (c12 : PySem.W.codeIn K cd12 "_law_key" = true) (k12 : PySem.W.keepIn K (.ref f12) = true)
    (a13 : PySem.W.nsIn K mainGlobals "_law_things" = some (some (.ref f13))) (l13 : K.lookup f13 = some ⟨oc13, od13, .func (PySem.W.fnOf "_law_things" "_law_things" (defArgs st_l_things) (defBody st_l_things) (defScope st_l_things) .none kV13 dc13 pm13 an13 cd13 ct13), sl13⟩) (c13 : PySem.W.codeIn K cd13 "_law_things" = true) (k13 : PySem.W.keepIn K (.ref f13) = true)
    (a14 : PySem.W.nsIn K mainGlobals "_law_room" = some (some (.ref f14))) (l14 : K.lookup f14 = some ⟨oc14, od14, .func (PySem.W.fnOf "_law_room" "_law_room" (defArgs st_l_room) (defBody st_l_room) (defScope st_l_room) .none kV14 dc14 pm14 an14 cd14 ct14), sl14⟩) (c14 : PySem.W.codeIn K cd14 "_law_room" = true) (k14 : PySem.W.keepIn K (.ref f14) = true)
    (a15 : PySem.W.nsIn K mainGlobals "_law_walked" = some (some (.ref f15))) (l15 : K.lookup f15 = some ⟨oc15, od15, .func (PySem.W.fnOf "_law_walked" "_law_walked" (defArgs st_l_walked) (defBody st_l_walked) (defScope st_l_walked) .none kV15 dc15 pm15 an15 cd15 ct15), sl15⟩) (c15 : PySem.W.codeIn K cd15 "_law_walked" = true) (k15 : PySem.W.keepIn K (.ref f15) = true)
    (a16 : PySem.W.nsIn K mainGlobals "_law_like_ones_right" = some (some (.ref f16))) (l16 : K.lookup f16 = some ⟨oc16, od16, .func (PySem.W.fnOf "_law_like_ones_right" "_law_like_ones_right" (defArgs st_l_like_ones_right) (defBody st_l_like_ones_right) (defScope st_l_like_ones_right) .none kV16 dc16 pm16 an16 cd16 ct16), sl16⟩) (c16 : PySem.W.codeIn K cd16 "_law_like_ones_right" = true) (k16 : PySem.W.keepIn K (.ref f16) = true)
    (a17 : PySem.W.nsIn K mainGlobals "law" = some (some (.ref f17))) (l17 : K.lookup f17 = some ⟨oc17, od17, .func (PySem.W.fnOf "law" "law" (defArgs st_law) (defBody st_law) (defScope st_law) .none kV17 dc17 pm17 an17 cd17 ct17), sl17⟩) (c17 : PySem.W.codeIn K cd17 "law" = true) (k17 : PySem.W.keepIn K (.ref f17) = true)
    (z0 : PySem.W.nsIn K mainGlobals "abs" = some none) (z1 : PySem.W.nsIn K mainGlobals "all" = some none) (z2 : PySem.W.nsIn K mainGlobals "any" = some none) (z3 : PySem.W.nsIn K mainGlobals "bool" = some none) (z4 : PySem.W.nsIn K mainGlobals "dict" = some none) (z5 : PySem.W.nsIn K mainGlobals "enumerate" = some none) (z6 : PySem.W.nsIn K mainGlobals "int" = some none) (z7 : PySem.W.nsIn K mainGlobals "isinstance" = some none) (z8 : PySem.W.nsIn K mainGlobals "len" = some none) (z9 : PySem.W.nsIn K mainGlobals "list" = some none) (z10 : PySem.W.nsIn K mainGlobals "min" = some none) (z11 : PySem.W.nsIn K mainGlobals "range" = some none) (z12 : PySem.W.nsIn K mainGlobals "sorted" = some none) :
    ∃ fd : FuncData, (∀ (s : Shared) (v : Value), BindsTo s fd ⟨[v], []⟩ [("_law_script", v)]) ∧ ∀ base : Heap, K.In base → base.Ns mainGlobals mg → FnOk l.prog w K mg base CX0 8 fa fd ["_law_script"] (spLaw K) := by
  have e := hfa.symm.trans (PySem.W.mg_of X G a17)
  cases e
  have T : Tops K mg := ⟨⟨PySem.W.mg_none_of X G z0, PySem.W.mg_none_of X G z1, PySem.W.mg_none_of X G z2, PySem.W.mg_none_of X G z3, PySem.W.mg_none_of X G z4, PySem.W.mg_none_of X G z5, PySem.W.mg_none_of X G z6, PySem.W.mg_none_of X G z7, PySem.W.mg_none_of X G z8, PySem.W.mg_none_of X G z9, PySem.W.mg_none_of X G z10, PySem.W.mg_none_of X G z11, PySem.W.mg_none_of X G z12⟩, top_mk X G a0 l0 c0 k0 fun _ _ _ _ _ _ us hl => match us, hl with | [_], _ => rfl, top_mk X G a1 l1 c1 k1 fun _ _ _ _ _ _ us hl => match us, hl with | [_, _], _ => rfl, top_mk X G a2 l2 c2 k2 fun _ _ _ _ _ _ us hl => match us, hl with | [_, _], _ => rfl, top_mk X G a3 l3 c3 k3 fun _ _ _ _ _ _ us hl => match us, hl with | [_, _, _], _ => rfl, top_mk X G a4 l4 c4 k4 fun _ _ _ _ _ _ us hl => match us, hl with | [_, _, _], _ => rfl, top_mk X G a5 l5 c5 k5 fun _ _ _ _ _ _ us hl => match us, hl with | [_, _], _ => rfl, top_mk X G a6 l6 c6 k6 fun _ _ _ _ _ _ us hl => match us, hl with | [_, _, _], _ => rfl, top_mk X G a7 l7 c7 k7 fun _ _ _ _ _ _ us hl => match us, hl with | [_, _], _ => rfl, top_mk X G a8 l8 c8 k8 fun _ _ _ _ _ _ us hl => match us, hl with | [_, _], _ => rfl, top_mk X G a9 l9 c9 k9 fun _ _ _ _ _ _ us hl => match us, hl with | [_, _], _ => rfl, top_mk X G a10 l10 c10 k10 fun _ _ _ _ _ _ us hl => match us, hl with | [_, _], _ => rfl, top_mk X G a11 l11 c11 k11 fun _ _ _ _ _ _ us hl => match us, hl with | [_], _ => rfl, top_mk X G a12 l12 c12 k12 fun _ _ _ _ _ _ us hl => match us, hl with | [_, _], _ => rfl, top_mk X G a13 l13 c13 k13 fun _ _ _ _ _ _ us hl => match us, hl with | [_], _ => rfl, top_mk X G a14 l14 c14 k14 fun _ _ _ _ _ _ us hl => match us, hl with | [_], _ => rfl, top_mk X G a15 l15 c15 k15 fun _ _ _ _ _ _ us hl => match us, hl with | [_, _, _], _ => rfl, top_mk X G a16 l16 c16 k16 fun _ _ _ _ _ _ us hl => match us, hl with | [_, _], _ => rfl⟩
  exact ⟨PySem.W.fnOf "law" "law" (defArgs st_law) (defBody st_law) (defScope st_law) .none kV17 dc17 pm17 an17 cd17 ct17, fun s v => .of_eq rfl, fun base _ _ => ok_law (fun_mk (st := st_law) l17 c17 k17) T⟩
theorem walk {l : PySem.W.OpenLaw} {q : Program} {loose : List Str} {XP : (Str → Option Value) → Heap → Prop} {YP : World → Heap → Prop} {d : DefRec} {K : Params → PySem.W.Frag} (hn : l.most = some 63) (hdf : d.params.defaults = [])
    (hY : ∀ (w : World) (h : Heap), YP w h → (K w.params).In h)
    (F : ∀ (w : World) (mg : Str → Option Value) (fa : Addr) (h : Heap), (K w.params).In h → h.Ns mainGlobals mg → mg d.name = some (.ref fa) →
      ∃ fd : FuncData, (∀ (s : Shared) (u : Value), BindsTo s fd ⟨[u], []⟩ [("_law_script", u)]) ∧ ∀ base : Heap, (K w.params).In base → base.Ns mainGlobals mg → FnOk l.prog w (K w.params) mg base CX0 8 fa fd ["_law_script"] (spLaw (K w.params))) :
    PySem.W.WalkO q loose XP YP l.row.toRowW d [] (fun f vs => PySem.call f vs) :=
  L2.walk_of (n := 63) (k := 8) (x := "_law_script") (CX := fun _ => CX0) (sp := fun w => spLaw (K w.params)) hn (by decide) hdf ⟨rfl, by decide, by decide, rfl⟩ hY F (fun _ _ a ns hl _ hS => ⟨a, ns, rfl, hS, hl, fun _ => rfl⟩) fun _ _ _ _ _ z => z
end My
open PySem PySem.W PyProof.Rows
set_option maxRecDepth 100000 in
set_option maxHeartbeats 0 in
theorem PySem.Challenge.cw_mergetree_k67_whole_runs_walked_holds : PySem.Challenge.rw_mergetree_k67_whole_runs_walked.Holds := by
  w_on; o_law; k_head; (case hw => w_witness2)
  k_fill
  refine My.walk (l := PySem.Challenge.rw_mergetree_k67_whole_runs_walked) rfl rfl (fun w h Y => PySem.W.kIn_of Y) ?F
  case F =>
    intro w mg fa h KX G hmg
    refine' My.all_mk KX G hmg ?a0 ?l0 ?c0 ?k0 ?a1 ?l1 ?c1 ?k1 ?a2 ?l2 ?c2 ?k2 ?a3 ?l3 ?c3 ?k3 ?a4 ?l4 ?c4 ?k4 ?a5 ?l5 ?c5 ?k5 ?a6 ?l6 ?c6 ?k6 ?a7 ?l7 ?c7 ?k7 ?a8 ?l8 ?c8 ?k8 ?a9 ?l9 ?c9 ?k9 ?a10 ?l10 ?c10 ?k10 ?a11 ?l11 ?c11 ?k11 ?a12 ?l12 ?c12 ?k12 ?a13 ?l13 ?c13 ?k13 ?a14 ?l14 ?c14 ?k14 ?a15 ?l15 ?c15 ?k15 ?a16 ?l16 ?c16 ?k16 ?a17 ?l17 ?c17 ?k17 ?z0 ?z1 ?z2 ?z3 ?z4 ?z5 ?z6 ?z7 ?z8 ?z9 ?z10 ?z11 ?z12
    (case a0 => k_is); (case l0 => k_is); (case c0 => k_is); (case k0 => k_is)
    (case a1 => k_is); (case l1 => k_is); (case c1 => k_is); (case k1 => k_is)
    (case a2 => k_is); (case l2 => k_is); (case c2 => k_is); (case k2 => k_is)
    (case a3 => k_is); (case l3 => k_is); (case c3 => k_is); (case k3 => k_is)
    (case a4 => k_is); (case l4 => k_is); (case c4 => k_is); (case k4 => k_is)
    (case a5 => k_is); (case l5 => k_is); (case c5 => k_is); (case k5 => k_is)
    (case a6 => k_is); (case l6 => k_is); (case c6 => k_is); (case k6 => k_is)
    (case a7 => k_is); (case l7 => k_is); (case c7 => k_is); (case k7 => k_is)
    (case a8 => k_is); (case l8 => k_is); (case c8 => k_is); (case k8 => k_is)
    (case a9 => k_is); (case l9 => k_is); (case c9 => k_is); (case k9 => k_is)
    (case a10 => k_is); (case l10 => k_is); (case c10 => k_is); (case k10 => k_is)
    (case a11 => k_is); (case l11 => k_is); (case c11 => k_is); (case k11 => k_is)
    (case a12 => k_is); (case l12 => k_is); (case c12 => k_is); (case k12 => k_is)
    (case a13 => k_is); (case l13 => k_is); (case c13 => k_is); (case k13 => k_is)
    (case a14 => k_is); (case l14 => k_is); (case c14 => k_is); (case k14 => k_is)
    (case a15 => k_is); (case l15 => k_is); (case c15 => k_is); (case k15 => k_is)
    (case a16 => k_is); (case l16 => k_is); (case c16 => k_is); (case k16 => k_is)
    (case a17 => k_is); (case l17 => k_is); (case c17 => k_is); (case k17 => k_is)
    (case z0 => k_is)
    (case z1 => k_is)
    (case z2 => k_is)
    (case z3 => k_is)
    (case z4 => k_is)
    (case z5 => k_is)
    (case z6 => k_is)
    (case z7 => k_is)
    (case z8 => k_is)
    (case z9 => k_is)
    (case z10 => k_is)
    (case z11 => k_is)
    (case z12 => k_is)

-- axioms: PySem.Challenge.cw_mergetree_k67_whole_runs_walked_holds
