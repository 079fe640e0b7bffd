import PyProof.Rows.All
import Wide.All
import OpenK.AllK
import Wide.FinOn
import Lean
import PyProof.EqAt
import PyProof.EqKinds
import PyProof.TupleCall
import PyProof.AttrMissHeap
import KE.KEqDict
import PySem.Challenge.RW_mergetree_k65_whole_papers_spoilt_at_eac
set_option Elab.async false
set_option linter.all false
set_option maxRecDepth 100000
/-! THE HAND LAYER, for ints, bools, texts, own classes, LISTS and tuples (index, slices, in, append, pop ..), calls, loops. Paste it whole ahead of your own text; what your proof does not reach may be deleted. -/
namespace L2
open PySem PySem.Spec PyProof.Rows

/-- a key: an int or a str -/
abbrev Key := Sum Int Str
def keyIs : Key → Value → Bool
  | .inl k, v => Value.isInt k v
  | .inr x, v => Value.isStrOf x v
def keyH (w : World) : Key → Int
  | .inl k => hashInt k
  | .inr x => hashStr w x
theorem keyIs_shape : ∀ {k : Key} {v : Value}, keyIs k v = true → (∃ i t, k = Sum.inl i ∧ v = Value.int i t) ∨ (∃ x t, k = Sum.inr x ∧ v = Value.str x t)
  | .inl i, v, h => by
    obtain ⟨t, e⟩ := Value.isInt_shape (k := i) (v := v) h
    exact .inl ⟨i, t, rfl, e⟩
  | .inr x, v, h => by
    obtain ⟨t, e⟩ := Value.isStrOf_shape (x := x) (v := v) h
    exact .inr ⟨x, t, rfl, e⟩
theorem keyIs_int (i : Int) (t : Tok) : keyIs (.inl i) (.int i t) = true := by simp [keyIs, Value.isInt]
theorem keyIs_str (x : Str) (t : Tok) : keyIs (.inr x) (.str x t) = true := by simp [keyIs, Value.isStrOf]
theorem key_ll (a b : Int) : decide ((Sum.inl a : Key) = Sum.inl b) = (a == b) := by
  by_cases e : a = b
  · subst e; simp
  · have h : ¬ (Sum.inl a : Key) = Sum.inl b := fun q => e (Sum.inl.inj q)
    rw [decide_eq_false h]
    exact (beq_eq_false_iff_ne.mpr e).symm
theorem key_rr (a b : Str) : decide ((Sum.inr a : Key) = Sum.inr b) = decide (a = b) := by
  by_cases e : a = b
  · subst e; simp
  · have h : ¬ (Sum.inr a : Key) = Sum.inr b := fun q => e (Sum.inr.inj q)
    rw [decide_eq_false h, decide_eq_false e]
theorem key_lr (a : Int) (b : Str) : decide ((Sum.inl a : Key) = Sum.inr b) = false := decide_eq_false (fun q => nomatch q)
theorem key_rl (a : Str) (b : Int) : decide ((Sum.inr a : Key) = Sum.inl b) = false := decide_eq_false (fun q => nomatch q)

def mixKind (prog : Program) (w : World) : PySem.KeyKind prog w Key where
  is := keyIs
  hash := keyH w
  inj := fun v a b ha hb => by
    rcases keyIs_shape ha with ⟨i, t, rfl, rfl⟩ | ⟨x, t, rfl, rfl⟩
    · rcases keyIs_shape hb with ⟨j, u, rfl, e⟩ | ⟨y, u, rfl, e⟩
      · injection e with e1 _; rw [e1]
      · exact nomatch e
    · rcases keyIs_shape hb with ⟨j, u, rfl, e⟩ | ⟨y, u, rfl, e⟩
      · exact nomatch e
      · injection e with e1 _; rw [e1]
  byValue := fun k v h => by
    rcases keyIs_shape h with ⟨i, t, rfl, rfl⟩ | ⟨x, t, rfl, rfl⟩ <;> rfl
  pyHash := fun hv h => by
    rcases keyIs_shape hv with ⟨i, t, rfl, rfl⟩ | ⟨x, t, rfl, rfl⟩
    · exact wpAny_pyHash_int h
    · exact wpAny_pyHash_str h
  eqBool := fun hu hv h => by
    rcases keyIs_shape hu with ⟨i, t, rfl, rfl⟩ | ⟨x, t, rfl, rfl⟩
    · rcases keyIs_shape hv with ⟨j, u, rfl, rfl⟩ | ⟨y, u, rfl, rfl⟩
      · rw [key_ll] at h; exact wpAny_eqBool_int h
      · rw [key_lr] at h; exact SeqAt.EqAt.int_str i t y u _ _ _ _ h
    · rcases keyIs_shape hv with ⟨j, u, rfl, rfl⟩ | ⟨y, u, rfl, rfl⟩
      · rw [key_rl] at h; exact SeqAt.EqAt.str_int x t j u _ _ _ _ h
      · rw [key_rr] at h; exact wpAny_eqBool_str h
  «strs» := fun k x t v h => by
    rcases keyIs_shape h with ⟨i, u, rfl, e⟩ | ⟨y, u, rfl, e⟩
    · exact nomatch e
    · injection e with e1 _
      subst e1
      cases v <;> rfl

theorem mixKind_is (prog : Program) (w : World) (k : Key) (v : Value) : (mixKind prog w).is k v = keyIs k v := rfl
theorem mixKind_int (prog : Program) (w : World) (i : Int) (t : Tok) : (mixKind prog w).is (.inl i) (.int i t) = true := keyIs_int i t
theorem mixKind_str (prog : Program) (w : World) (x : Str) (t : Tok) : (mixKind prog w).is (.inr x) (.str x t) = true := keyIs_str x t
end L2

namespace L2
open PySem PySem.Spec PyProof.Rows

/-- a value, without the heap -/
inductive V where
  | non | bl (b : Bool) | int (i : Int) | str (x : Str) | byt (b : Array UInt8) | flt (b : UInt64) | ref (a : Addr) | ty (n : String)
  deriving DecidableEq

def RelV : V → Value → Prop
  | .non, u => u = Value.none
  | .bl b, u => u = Value.bool b
  | .int i, u => ∃ t, u = Value.int i t
  | .str x, u => ∃ t, u = Value.str x t
  | .byt b, u => ∃ t, u = Value.bytes b t
  | .flt b, u => ∃ t, u = Value.float b t
  | .ref a, u => u = Value.ref a
  | .ty n, u => u = Value.type n

abbrev Vals : List V → List Value → Prop := Paired RelV
theorem Vals.length {xs : List V} {us : List Value} (r : Vals xs us) : xs.length = us.length := Paired.length r
theorem Vals.get : ∀ {xs : List V} {us : List Value} {i : Nat} {x : V}, Vals xs us → xs[i]? = some x → ∃ u, us[i]? = some u ∧ RelV x u
  | _, _, _, _, .nil, e => by simp at e
  | _, _, 0, _, .cons r _, e => by simp at e; subst e; exact ⟨_, rfl, r⟩
  | _, _, i + 1, x, .cons _ t, e => by
    obtain ⟨u, h1, h2⟩ := Vals.get (i := i) (x := x) t (by simpa using e)
    exact ⟨u, by simpa using h1, h2⟩
theorem Vals.set {x : V} {u : Value} (r : RelV x u) : ∀ {xs : List V} {us : List Value} (i : Nat), Vals xs us → Vals (xs.set i x) (us.set i u)
  | _, _, _, .nil => .nil
  | _, _, 0, .cons _ t => .cons r t
  | _, _, i + 1, .cons q t => .cons q (Vals.set r i t)
theorem Vals.append : ∀ {xs ys : List V} {us ws : List Value}, Vals xs us → Vals ys ws → Vals (xs ++ ys) (us ++ ws)
  | _, _, _, _, .nil, s => s
  | _, _, _, _, .cons r t, s => .cons r (Vals.append t s)
theorem Vals.take : ∀ {xs : List V} {us : List Value} (n : Nat), Vals xs us → Vals (xs.take n) (us.take n)
  | _, _, 0, _ => .nil
  | _, _, _ + 1, .nil => .nil
  | _, _, n + 1, .cons r t => .cons r (Vals.take n t)
theorem Vals.drop : ∀ {xs : List V} {us : List Value} (n : Nat), Vals xs us → Vals (xs.drop n) (us.drop n)
  | _, _, 0, r => r
  | _, _, _ + 1, .nil => .nil
  | _, _, n + 1, .cons _ t => Vals.drop n t
def RelO : Option V → Option Value → Prop
  | some v, some u => RelV v u
  | none, none => True
  | _, _ => False
def KV {κ : Type} : List (κ × V) → List (κ × Value) → Prop := Paired fun (p : κ × V) (q : κ × Value) => p.1 = q.1 ∧ RelV p.2 q.2

/-- a key of a dict (00_mix): an int or a text -/
def kV : Key → V
  | .inl i => .int i
  | .inr x => .str x

/-- what stands at a tracked address -/
inductive HO where
  /-- a list -/
  | lst (xs : List V)
  /-- a tuple (never changes) -/
  | tup (xs : List V)
  /-- a dict whose keys are ints and texts; one whose keys are tuples of ints and texts (the empty one is both) -/
  | dK (kvs : List (Key × V)) | dT (kvs : List (List Key × V))
  /-- a set of ints: its members, its size -/
  | set (S : Int → Bool) (n : Nat)
  /-- an instance of the class at C, its dict at dx, its attributes -/
  | ins (C dx : Addr) (fs : List (Str × V))
  /-- the dict of the instance at x -/
  | own (x : Addr)
  /-- the dict of an exception -/
  | xd (fs : List (Str × V))
  /-- a bound method, f of x -/
  | met (f x : Addr)
  /-- a range object lo, lo + 1, .. below hi -/
  | rng (lo hi : Int)
  /-- a thing that is known to the object (the script; a dict while a loop walks it): read, never written while it is so -/
  | frz (o : Obj) (u : HO)
  /-- a code object's table -/
  | tbl (ps : Array Value)
  /-- any other thing, by what is true of its one object (a def of one's own: SetO a S n := HO.ext fun h => ..) -/
  | ext (φ : Heap → Prop)

abbrev Hp := Addr → Option HO
def upd (H : Hp) (a : Addr) (o : HO) : Hp := fun b => if b = a then some o else H b
theorem upd_same {H : Hp} {a : Addr} {o : HO} : upd H a o a = some o := by unfold upd; rw [if_pos rfl]
theorem upd_ne {H : Hp} {a b : Addr} {o : HO} (h : b ≠ a) : upd H a o b = H b := by unfold upd; rw [if_neg h]
/-- two objects of different content stand apart -/
theorem ne_of {H : Hp} {a b : Addr} {o u : HO} (h : H a = some o) (h' : H b = some u) (d : o ≠ u) : a ≠ b := by
  intro e; subst e; rw [h] at h'; exact d (Option.some.inj h')
theorem ne_of_none {H : Hp} {a b : Addr} {o : HO} (h : H a = some o) (h' : H b = none) : a ≠ b := by
  intro e; subst e; rw [h] at h'; cases h'

section
variable (P : Program) (w : World)
def ObjOk (H : Hp) (h : Heap) (a : Addr) : HO → Prop
  | .lst xs => xs.length ≤ sizeLine ∧ ∃ (its : List Value) (n : Nat), Vals xs its ∧ h.get? a = some { cls := .type "list", data := .seq its.toArray n }
  | .tup xs => xs.length ≤ sizeLine ∧ ∃ its : List Value, Vals xs its ∧ IsTup h a its.toArray
  | .dK kvs => kvs.length ≤ sizeLine ∧ (a == sysModules) = false ∧ ∃ vs, KV kvs vs ∧ h.DictOf (mixKind P w) a vs
  | .dT kvs => kvs.length ≤ sizeLine ∧ (a == sysModules) = false ∧ ∃ xs : List (List Key × Addr × Value),
      Paired (fun (p : List Key × V) (q : List Key × Addr × Value) => p.1 = q.1 ∧ H q.2.1 = some (.tup (p.1.map kV)) ∧ RelV p.2 q.2.2) kvs xs ∧
      ∃ o es ep, h.get? a = some o ∧ o.ExactDict ∧ o.data = .dict es ep ∧ es.toList = xs.map (entryOfKey (tupleKind (mixKind P w))) ∧ (xs.map (·.1)).Nodup
  | .set S n => h.SetOf (intKind P w) a S n
  | .ins C dx fs => H dx = some (.own a) ∧ fs.length ≤ 1000 ∧ dx ≠ a ∧ h.get? a = some (PySem.W.instObj C dx) ∧
      ∃ mA, h.Ns1 dx mA ∧ (∀ f, RelO (fs.lookup f) (mA f)) ∧ PySem.Within mA (fs.map (·.1))
  | .own _ => ∃ o, h.get? a = some o
  | .xd fs => ∃ mA, h.Ns1 a mA ∧ ∀ f, RelO (fs.lookup f) (mA f)
  | .rng lo hi => ∃ t u v, h.get? a = some { cls := .type "range", data := .fields #[.int lo t, .int hi u, .int 1 v] }
  | .frz o u => h.get? a = some o ∧ ObjOk H h a u
  | .tbl ps => h.get? a = some { cls := .none, data := .fields ps }
  | .met f x => h.get? a = some (PySem.W.methodObj (.ref f) (.ref x))
  | .ext φ => φ h ∧ (∃ o, h.get? a = some o) ∧ ∀ h1 h2 : Heap, φ h1 → (∀ o, h1.get? a = some o → h2.get? a = some o) → φ h2
/-- the abstract heap is held -/
def HOk (H : Hp) (h : Heap) : Prop := ∀ a o, H a = some o → ObjOk P w H h a o
end

section
variable {P : Program} {w : World} {H H' : Hp} {h h' : Heap} {a : Addr} {o : HO}
theorem ObjOk.lt (x : ObjOk P w H h a o) : a < h.objs.size := by
  cases o with
  | lst xs => obtain ⟨_, _, _, _, e⟩ := x; exact Heap.lt_size e
  | tup xs => obtain ⟨_, _, _, p⟩ := x; exact p.lt
  | dK kvs => obtain ⟨_, _, _, _, o, _, _, e, _⟩ := x; exact Heap.lt_size e
  | dT kvs => obtain ⟨_, _, _, _, o, _, _, e, _⟩ := x; exact Heap.lt_size e
  | set S n => obtain ⟨o, _, _, _, e, _⟩ := x; exact Heap.lt_size e
  | ins C dx fs => obtain ⟨_, _, _, e, _⟩ := x; exact Heap.lt_size e
  | own y => obtain ⟨_, e⟩ := x; exact Heap.lt_size e
  | xd fs => obtain ⟨_, ⟨_, _, _, e, _⟩, _⟩ := x; exact Heap.lt_size e
  | rng lo hi => obtain ⟨_, _, _, e⟩ := x; exact Heap.lt_size e
  | frz ob u => obtain ⟨e, _⟩ := x; exact Heap.lt_size e
  | tbl ps => exact Heap.lt_size (show h.get? a = some _ from x)
  | met f y => exact Heap.lt_size (show h.get? a = some _ from x)
  | ext φ => obtain ⟨_, ⟨_, e⟩, _⟩ := x; exact Heap.lt_size e
theorem Paired.mapP {α β : Type} {F G : α → β → Prop} : ∀ {l₁ : List α} {l₂ : List β}, Paired F l₁ l₂ → (∀ a b, F a b → G a b) → Paired G l₁ l₂
  | _, _, .nil, _ => .nil
  | _, _, .cons r t, f => .cons (f _ _ r) (Paired.mapP t f)
/-- what an object's description leans on: its own object, its own dict, the tuples -/
theorem ObjOk.stay (x : ObjOk P w H h a o) (k : ∀ b u, (b = a ∨ H b = some (.own a)) → h.get? b = some u → h'.get? b = some u)
    (ho : ∀ b, H b = some (.own a) → H' b = some (.own a)) (ht : ∀ b xs, H b = some (.tup xs) → H' b = some (.tup xs)) : ObjOk P w H' h' a o := by
  induction o with
  | lst xs => obtain ⟨z, its, n, r, e⟩ := x; exact ⟨z, its, n, r, k _ _ (.inl rfl) e⟩
  | tup xs => obtain ⟨z, its, r, ob, e, c⟩ := x; exact ⟨z, its, r, ob, k _ _ (.inl rfl) e, c⟩
  | dK kvs => obtain ⟨z, y, vs, r, ob, es, ep, e, c⟩ := x; exact ⟨z, y, vs, r, ob, es, ep, k _ _ (.inl rfl) e, c⟩
  | dT kvs =>
    obtain ⟨z, y, xs, r, ob, es, ep, e, c⟩ := x
    exact ⟨z, y, xs, Paired.mapP r fun p q z => ⟨z.1, ht _ _ z.2.1, z.2.2⟩, ob, es, ep, k _ _ (.inl rfl) e, c⟩
  | set S n => obtain ⟨ob, es, ep, t, e, c⟩ := x; exact ⟨ob, es, ep, t, k _ _ (.inl rfl) e, c⟩
  | ins C dx fs =>
    obtain ⟨d, z, ne, e, mA, ⟨od, es, ep, e2, c⟩, r⟩ := x
    exact ⟨ho _ d, z, ne, k _ _ (.inl rfl) e, mA, ⟨od, es, ep, k _ _ (.inr d) e2, c⟩, r⟩
  | own y => obtain ⟨ob, e⟩ := x; exact ⟨ob, k _ _ (.inl rfl) e⟩
  | xd fs => obtain ⟨mA, ⟨od, es, ep, e, c⟩, r⟩ := x; exact ⟨mA, ⟨od, es, ep, k _ _ (.inl rfl) e, c⟩, r⟩
  | rng lo hi => obtain ⟨t, u, v, e⟩ := x; exact ⟨t, u, v, k _ _ (.inl rfl) e⟩
  | frz ob u ih => obtain ⟨e, q⟩ := x; exact ⟨k _ _ (.inl rfl) e, ih q⟩
  | tbl ps =>
    have e : h.get? a = some { cls := .none, data := .fields ps } := x
    show h'.get? a = some { cls := .none, data := .fields ps }
    exact k a _ (.inl rfl) e
  | met f y =>
    have e : h.get? a = some (PySem.W.methodObj (.ref f) (.ref y)) := x
    show h'.get? a = some (PySem.W.methodObj (.ref f) (.ref y))
    exact k a _ (.inl rfl) e
  | ext φ => obtain ⟨p, ⟨o, e⟩, st⟩ := x; exact ⟨st _ _ p fun o q => k _ _ (.inl rfl) q, ⟨o, k _ _ (.inl rfl) e⟩, st⟩
theorem HOk.lt (x : HOk P w H h) (e : H a = some o) : a < h.objs.size := (x a o e).lt
theorem HOk.fresh (x : HOk P w H h) (e : h.objs.size ≤ a) : H a = none := by
  cases q : H a with
  | none => rfl
  | some u => exact absurd (Nat.lt_of_lt_of_le (x.lt q) e) (Nat.lt_irrefl _)
/-- every object of the heap is kept -/
theorem HOk.kept (x : HOk P w H h) (k : ∀ b u, h.get? b = some u → h'.get? b = some u) : HOk P w H h' := fun a o e =>
  (x a o e).stay (fun b u _ q => k b u q) (fun _ q => q) fun _ _ q => q
/-- a new object is laid and tracked -/
theorem HOk.laid (x : HOk P w H h) (k : ∀ b u, h.get? b = some u → h'.get? b = some u) (hp : h.objs.size ≤ a) (new : ObjOk P w (upd H a o) h' a o) : HOk P w (upd H a o) h' := fun b u e => by
  have hn := x.fresh hp
  by_cases hb : b = a
  · subst hb; rw [upd_same] at e; cases e; exact new
  · rw [upd_ne hb] at e
    exact (x b u e).stay (fun c v _ q => k c v q) (fun c q => by rw [upd_ne (ne_of_none q hn)]; exact q) fun c xs q => by rw [upd_ne (ne_of_none q hn)]; exact q
end

/-- what may be read as u: it is u, or a known u -/
def Rd (H : Hp) (a : Addr) (u : HO) : Prop := H a = some u ∨ ∃ o, H a = some (.frz o u)
theorem Rd.ok {P : Program} {w : World} {H : Hp} {h : Heap} {a : Addr} {u : HO} (r : Rd H a u) (x : HOk P w H h) : ObjOk P w H h a u := by
  rcases r with r | ⟨o, r⟩
  · exact x a u r
  · obtain ⟨_, q⟩ := x a _ r
    exact q
/-- what may be written -/
def Mut : Option HO → Prop
  | some (.lst _) => True
  | some (.dK _) => True
  | some (.dT _) => True
  | some (.set _ _) => True
  | some (.ins _ _ _) => True
  | some (.ext _) => True
  | _ => False
section
variable {P : Program} {w : World} {H : Hp} {h h' : Heap} {x e : Addr} {o' : HO}
/-- the object at e is changed: x itself, or the dict of the instance x -/
theorem HOk.write (ok : HOk P w H h) (mu : Mut (H x)) (he : e = x ∨ H e = some (.own x)) (k : ∀ b u, b ≠ e → h.get? b = some u → h'.get? b = some u) (heo : ∃ u, h'.get? e = some u)
    (new : ObjOk P w (upd H x o') h' x o') : HOk P w (upd H x o') h' := fun b u q => by
  have nown : ∀ c y, H c = some (.own y) → c ≠ x := fun c y r z => by subst z; rw [r] at mu; exact mu
  have ntup : ∀ c xs, H c = some (.tup xs) → c ≠ x := fun c xs r z => by subst z; rw [r] at mu; exact mu
  by_cases hb : b = x
  · subst hb; rw [upd_same] at q; cases q; exact new
  · rw [upd_ne hb] at q
    by_cases hbe : b = e
    · have q' : H b = some (.own x) := by
        rcases he with z | z
        · exact absurd (hbe.trans z) hb
        · rw [hbe]; exact z
      rw [q] at q'; cases q'
      obtain ⟨v, hv⟩ := heo
      exact ⟨v, by rw [hbe]; exact hv⟩
    · refine (ok b u q).stay (fun c v hc r => k c v ?_ r) (fun c r => by rw [upd_ne (nown c b r)]; exact r) fun c xs r => by rw [upd_ne (ntup c xs r)]; exact r
      rcases hc with rfl | hc
      · exact hbe
      · rintro rfl
        rcases he with z | z
        · exact nown c b hc z
        · rw [hc] at z; cases z; exact hb rfl
end

/-! ### kept unless tracked; of the frames at fs (the callers') the slots may change (an exception that passes writes there); of the records at ex (iterators) nothing is said -/
structure Un (fs ex : List Addr) (H H' : Hp) (h h' : Heap) : Prop where
  keep : ∀ b o, h.get? b = some o → H b = none → b ∉ fs → b ∉ ex → h'.get? b = some o
  slot : ∀ b o, h.get? b = some o → H b = none → b ∈ fs → b ∉ ex → ∃ sl, h'.get? b = some { o with slots := sl }
  free : ∀ b o, h.get? b = some o → H b = none → b ∉ ex → H' b = none
  there : ∀ b o, h.get? b = some o → b ∉ ex → ∃ o', h'.get? b = some o'
  tups : ∀ b xs, H b = some (.tup xs) → H' b = some (.tup xs)
  frzs : ∀ b o u, H b = some (.frz o u) → H' b = some (.frz o u)
  tbls : ∀ b ps, H b = some (.tbl ps) → ∃ more, H' b = some (.tbl (ps ++ more))
section
variable {fs fs' ex ex' : List Addr} {H H1 H2 : Hp} {h h1 h2 h' : Heap} {a x e : Addr} {o : HO}
theorem Un.any (u : Un fs ex H H1 h h1) {b : Addr} {ob : Obj} (q : h.get? b = some ob) (n : H b = none) (hx : b ∉ ex) : ∃ sl, h1.get? b = some { ob with slots := sl } := by
  by_cases hb : b ∈ fs
  · exact u.slot b ob q n hb hx
  · exact ⟨ob.slots, u.keep b ob q n hb hx⟩
theorem Un.kept (k : ∀ b u, h.get? b = some u → h'.get? b = some u) : Un fs ex H H h h' :=
  ⟨fun b ob q _ _ _ => k b ob q, fun b ob q _ _ _ => ⟨ob.slots, k b ob q⟩, fun _ _ _ n _ => n, fun b ob q _ => ⟨ob, k b ob q⟩, fun _ _ q => q, fun _ _ _ q => q, fun _ ps q => ⟨#[], by rw [q]; simp⟩⟩
theorem Un.refl : Un fs ex H H h h := Un.kept fun _ _ q => q
theorem Un.laid (k : ∀ b u, h.get? b = some u → h'.get? b = some u) (hp : h.objs.size ≤ a) (hn : H a = none) : Un fs ex H (upd H a o) h h' where
  keep := fun b u q _ _ _ => k b u q
  slot := fun b u q _ _ _ => ⟨u.slots, k b u q⟩
  free := fun b u q n _ => by rw [upd_ne (Nat.ne_of_lt (Nat.lt_of_lt_of_le (Heap.lt_size q) hp))]; exact n
  there := fun b u q _ => ⟨u, k b u q⟩
  tups := fun b xs q => by rw [upd_ne (ne_of_none q hn)]; exact q
  frzs := fun b u xs q => by rw [upd_ne (ne_of_none q hn)]; exact q
  tbls := fun b ps q => ⟨#[], by rw [upd_ne (ne_of_none q hn), q]; simp⟩
theorem Un.write (mu : Mut (H x)) (he : e = x ∨ H e = some (.own x)) (k : ∀ b u, b ≠ e → h.get? b = some u → h'.get? b = some u) (heo : ∃ u, h'.get? e = some u) : Un fs ex H (upd H x o) h h' := by
  have hx : ∀ b, H b = none → b ≠ x := fun b n z => by subst z; rw [n] at mu; exact mu
  have hb : ∀ b, H b = none → b ≠ e := fun b n z => by
    subst z
    rcases he with r | r
    · exact hx b n r
    · rw [n] at r; cases r
  have hm : ∀ b u, H b = some u → ¬ Mut (some u) → b ≠ x := fun b u q nm z => by subst z; rw [q] at mu; exact nm mu
  refine ⟨fun b u q n _ _ => k b u (hb b n) q, fun b u q n _ _ => ⟨u.slots, k b u (hb b n) q⟩, fun b u q n _ => by rw [upd_ne (hx b n)]; exact n, fun b u q _ => ?_,
    fun b xs q => by rw [upd_ne (hm b _ q fun z => z)]; exact q, fun b u xs q => by rw [upd_ne (hm b _ q fun z => z)]; exact q, fun b ps q => ⟨#[], by rw [upd_ne (hm b _ q fun z => z), q]; simp⟩⟩
  by_cases hbe : b = e
  · subst hbe; exact heo
  · exact ⟨u, k b u hbe q⟩
end

/-! ### the heap without what is tracked -/
def trk (h : Heap) (H : Hp) : List Addr := (List.range h.objs.size).filter fun a => (H a).isSome
def hidT (h : Heap) (H : Hp) : Heap := PySem.W.hideAll h (trk h H)
theorem hidT_size (h : Heap) (H : Hp) : (hidT h H).objs.size = h.objs.size := PySem.W.hideAll_size _ _
theorem hidT_get {h : Heap} {H : Hp} {b : Addr} {o : Obj} (e : h.get? b = some o) (n : H b = none) : (hidT h H).get? b = some o :=
  PySem.W.hideAll_get _ e fun hm => by
    have q : (H b).isSome = true := (List.mem_filter.mp hm).2
    rw [n] at q; simp at q
theorem of_hidT {h : Heap} {H : Hp} {b : Addr} {o : Obj} (e : (hidT h H).get? b = some o) : h.get? b = some o ∧ H b = none := by
  have e' : h.get? b = some o := PySem.W.of_hideAll (trk h H) e
  refine ⟨e', ?_⟩
  cases q : H b with
  | none => rfl
  | some x =>
    have hm : b ∈ trk h H := List.mem_filter.mpr ⟨List.mem_range.mpr (Heap.lt_size e'), by simp [q]⟩
    have z : (hidT h H).get? b = none := PySem.W.hideAll_none (trk h H) hm
    rw [z] at e; cases e

/-! ### OpenK's ledger, filled with every new object but one -/
def allNews (g h : Heap) (L : Addr) : List (Addr × Obj) := (List.range h.objs.size).filterMap fun a => if a = L ∨ (g.get? a).isSome = true then none else (h.get? a).map fun o => (a, o)
def rest (g h : Heap) (L d : Addr) : List (Addr × Obj) := (allNews g h L).filter fun p => decide (p.1 ≠ d)
end L2

namespace L2
open PySem PySem.Spec PyProof.Rows

/-- the module's facts, over the base: the heap at the law's entry without what is tracked there -/
structure Mod (K : PySem.W.Frag) (mg : Str → Option Value) (base : Heap) : Prop where
  kin : K.In base
  glob : base.Ns mainGlobals mg
  blt : ∃ mb, base.Ns builtinsNs mb ∧ ∀ x : Str, x ≠ "__name__" → mb x = bootBuiltins x
  nolimit : base.NoLimit

/-- the context: a def's body (or a comprehension's block) running. base: fixed through the whole law; s₀, H₀: the entry; outer: the frames whose slots others may change (a def's callers); stack: all frames that run;
   ex: iterators that were made ahead of the entry and are walked here (a comprehension's); fn: the names whose cells were made at the entry (a def: all; a comprehension's block: its own); calm: not within an except suite; pn: pins that every state bears; xe: what is wanted of an exception that leaves the code -/
structure Cx where
  prog : Program
  w : World
  K : PySem.W.Frag
  mg : Str → Option Value
  base : Heap
  A : Around
  N : List Str
  s₀ : Shared
  H₀ : Hp
  env : Env
  outer : List Env
  stack : List Env
  ex : List Addr
  fn : Str → Bool
  calm : Bool
  pn : List (Addr × Obj)
  xe : Value → Shared → Prop
/-- the callers' frames -/
def frs (l : List Env) : List Addr := l.filterMap (·.frame)
abbrev Cx.fs (X : Cx) : List Addr := frs X.outer

def Vis (sc : Scope) (x : Str) : Prop := sc.names.lookup x = some .local ∨ sc.names.lookup x = some .cell ∨ sc.names.lookup x = some .free
def Loc (sc : Scope) (x : Str) : Prop := sc.names.lookup x = some .local ∨ sc.names.lookup x = some .cell
def Look (env : Env) (h : Heap) (m : Str → Option Value) (x : Str) (u : Value) : Prop :=
  (env.kindOf x = some .local ∧ m x = some u) ∨ ((env.kindOf x = some .cell ∨ env.kindOf x = some .free) ∧ ∃ c, env.cells.lookup x = some c ∧ h.IsCell c (some u))

structure Cx.Ok (X : Cx) : Prop where
  mod : Mod X.K X.mg X.base
  kind : X.env.scope.kind = .function
  glob : X.env.globals = mainGlobals
  blt : X.env.builtins = builtinsNs
  above : X.s₀.heap.objs.size ≤ X.env.locals
  inj : ∀ x y c, X.env.cells.lookup x = some c → X.env.cells.lookup y = some c → x = y
  has : ∀ x, (X.env.kindOf x = some .cell ∨ X.env.kindOf x = some .free) → ∃ c, X.env.cells.lookup x = some c
  cab : ∀ x c, X.fn x = true → X.env.cells.lookup x = some c → X.s₀.heap.objs.size ≤ c
  hd : X.calm = true → X.A.handled = none
  frames : X.A.frames = some X.stack
  stk : X.stack = X.outer ∨ (X.stack = X.env :: X.outer ∧ X.env.frame = some X.env.locals)
  exf : ∀ b ∈ X.ex, b ≠ X.env.locals ∧ ∀ x c, X.env.cells.lookup x = some c → c ≠ b
  bs : ∀ b o, X.base.get? b = some o → X.s₀.heap.get? b = some o ∧ X.H₀ b = none
  bsz : X.base.objs.size ≤ X.s₀.heap.objs.size
  noex : ∀ b o, X.base.get? b = some o → b ∉ X.ex
  exfs : ∀ b ∈ X.ex, b ∉ X.fs
  funs : X.s₀.heap.FunFrames X.base X.outer
  frf : ∀ b ∈ X.fs, X.H₀ b = none

structure Inv (X : Cx) (pins : List (Addr × Obj)) (σ : List (Option V)) (H : Hp) (s : Shared) : Prop where
  ok : X.Ok
  os : s.os = X.s₀.os
  bare : AllBare s.gens
  base : Un X.fs X.ex X.H₀ H X.s₀.heap s.heap
  loc : ∃ m, s.heap.Ns X.env.locals m ∧ ∀ (i : Nat) (x : Str) (v : V), X.N[i]? = some x → σ[i]? = some (some v) → Vis X.env.scope x → ∃ u, RelV v u ∧ Look X.env s.heap m x u
  cell : ∀ x c, X.env.cells.lookup x = some c → ∃ v, s.heap.IsCell c v
  free : H X.env.locals = none
  freeC : ∀ x c, X.env.cells.lookup x = some c → H c = none
  pin : ∀ p ∈ X.pn ++ pins, s.heap.get? p.1 = some p.2 ∧ H p.1 = none ∧ p.1 ≠ X.env.locals ∧ p.1 ∉ X.fs ∧ ∀ v, p.2.data ≠ .cell v
  hok : HOk X.prog X.w H s.heap
  len : σ.length = X.N.length

section
variable {X : Cx} {pins : List (Addr × Obj)} {σ : List (Option V)} {H H' : Hp} {s : Shared} {h' : Heap}

theorem Cx.Ok.nofr (ok : X.Ok) {b : Addr} {o : Obj} (e : X.base.get? b = some o) : b ∉ X.fs := fun hb => by
  have := (ok.funs.mem hb).1
  rw [e] at this; cases this
theorem Inv.bs (I : Inv X pins σ H s) : ∀ b o, X.base.get? b = some o → s.heap.get? b = some o ∧ H b = none := fun b o e =>
  ⟨I.base.keep b o (I.ok.bs b o e).1 (I.ok.bs b o e).2 (I.ok.nofr e) (I.ok.noex b o e), I.base.free b o (I.ok.bs b o e).1 (I.ok.bs b o e).2 (I.ok.noex b o e)⟩
theorem Inv.bk (I : Inv X pins σ H s) : ∀ b o, X.base.get? b = some o → s.heap.get? b = some o := fun b o e => (I.bs b o e).1
theorem Inv.mod (I : Inv X pins σ H s) : Mod X.K X.mg X.base := I.ok.mod
theorem Inv.kIn (I : Inv X pins σ H s) : X.K.In s.heap := I.ok.mod.kin.keeps I.bk
theorem Inv.lt (I : Inv X pins σ H s) : X.env.locals < s.heap.objs.size := let ⟨_, hn, _⟩ := I.loc; hn.lt
theorem Inv.sz (I : Inv X pins σ H s) : X.s₀.heap.objs.size ≤ s.heap.objs.size := Nat.le_trans I.ok.above (Nat.le_of_lt I.lt)
theorem Inv.nofs (I : Inv X pins σ H s) {a : Addr} (h : s.heap.objs.size ≤ a) : a ∉ X.fs := fun hb => by
  obtain ⟨_, o, ho, _⟩ := I.ok.funs.mem hb
  exact absurd (Nat.lt_of_lt_of_le (Heap.lt_size ho) (Nat.le_trans I.sz h)) (Nat.lt_irrefl _)
theorem Inv.cne (I : Inv X pins σ H s) : ∀ x c, X.env.cells.lookup x = some c → c ≠ X.env.locals := fun x c e z => by
  obtain ⟨v, o, ho, hd⟩ := I.cell x c e
  obtain ⟨m, ⟨o', es, ep, ho', hd', _⟩, _⟩ := I.loc
  rw [z, ho'] at ho; cases ho; rw [hd'] at hd; cases hd
theorem Inv.funs (I : Inv X pins σ H s) : s.heap.FunFrames X.base X.outer := by
  have all : ∀ (l : List Env), (∀ b ∈ frs l, b ∈ X.fs) → X.s₀.heap.FunFrames X.base l → s.heap.FunFrames X.base l := by
    intro l
    induction l with
    | nil => intro _ _; trivial
    | cons env r ih =>
      intro hs hl
      obtain ⟨hk, ⟨L, o, hf, hn, ho, hd⟩, hr⟩ := hl
      have hL : L ∈ X.fs := hs L (by unfold frs; rw [List.filterMap_cons, hf]; exact List.mem_cons_self)
      obtain ⟨sl, e⟩ := I.base.slot L o ho (I.ok.frf L hL) hL fun z => I.ok.exfs L z hL
      exact ⟨hk, ⟨L, _, hf, hn, e, hd⟩, ih (fun b hb => hs b (by unfold frs; rw [List.filterMap_cons, hf]; exact List.mem_cons_of_mem _ hb)) hr⟩
  exact all X.outer (fun _ hb => hb) I.ok.funs

/-- the frames that run, for a call -/
theorem Inv.stack (I : Inv X pins σ H s) : s.heap.FunFrames X.base X.stack := by
  rcases I.ok.stk with e | ⟨e, hf⟩
  · rw [e]; exact I.funs
  · rw [e]
    obtain ⟨m, hn, _⟩ := I.loc
    refine .cons (by rw [I.ok.kind]; decide) hf hn ?_ I.funs
    exact Heap.get?_none_of_le (Nat.le_trans I.ok.bsz I.ok.above)
theorem Inv.stkSub (I : Inv X pins σ H s) : ∀ b ∈ frs X.stack, b ∈ X.env.locals :: X.fs := fun b hb => by
  rcases I.ok.stk with e | ⟨e, hf⟩
  · rw [e] at hb; exact List.mem_cons_of_mem _ hb
  · rw [e] at hb
    unfold frs at hb
    rw [List.filterMap_cons, hf] at hb
    exact hb
theorem Inv.stkFree (I : Inv X pins σ H s) : ∀ b ∈ frs X.stack, H b = none := fun b hb => by
  rcases List.mem_cons.mp (I.stkSub b hb) with e | hb
  · rw [e]; exact I.free
  · obtain ⟨_, o, ho, _⟩ := I.ok.funs.mem hb
    exact I.base.free b o ho (I.ok.frf b hb) fun z => I.ok.exfs b z hb

/-- THE STEP: the untracked objects but the frame and the records at ch are kept (the callers' frames up to slots), the frame's map is kept, the new abstract heap is held -/
theorem Inv.step {g' : Array GenState} {t' : Nat} {d' : Drawn} {ch : List Addr} (I : Inv X pins σ H s)
    (hch : ∀ b ∈ ch, (b ∈ X.ex ∨ X.s₀.heap.objs.size ≤ b) ∧ b ≠ X.env.locals ∧ (∀ x c, X.env.cells.lookup x = some c → c ≠ b) ∧ ∀ p ∈ X.pn ++ pins, p.1 ≠ b)
    (keep : ∀ b o, b ≠ X.env.locals → b ∉ X.fs → b ∉ ch → s.heap.get? b = some o → H b = none → h'.get? b = some o)
    (slot : ∀ b o, b ≠ X.env.locals → b ∈ X.fs → b ∉ ch → s.heap.get? b = some o → H b = none → ∃ sl, h'.get? b = some { o with slots := sl }) (free : ∀ b o, b ∉ ch → s.heap.get? b = some o → H b = none → H' b = none)
    (there : ∀ b o, b ∉ ch → s.heap.get? b = some o → ∃ o', h'.get? b = some o')
    (tups : ∀ b xs, H b = some (.tup xs) → H' b = some (.tup xs)) (frzs : ∀ b o u, H b = some (.frz o u) → H' b = some (.frz o u)) (tbls : ∀ b ps, H b = some (.tbl ps) → ∃ more, H' b = some (.tbl (ps ++ more)))
    (ns : ∀ m, s.heap.Ns X.env.locals m → h'.Ns X.env.locals m) (hok : HOk X.prog X.w H' h') (hg : AllBare g') :
    Inv X pins σ H' { s with heap := h', gens := g', drawn := d', toks := t' } := by
  have neL : ∀ b o, X.s₀.heap.get? b = some o → b ≠ X.env.locals := fun b o e => Nat.ne_of_lt (Nat.lt_of_lt_of_le (Heap.lt_size e) I.ok.above)
  have neC : ∀ b o, X.s₀.heap.get? b = some o → b ∉ X.ex → b ∉ ch := fun b o e hx hb => by
    rcases (hch b hb).1 with z | z
    · exact hx z
    · exact absurd (Nat.lt_of_lt_of_le (Heap.lt_size e) z) (Nat.lt_irrefl _)
  have cellK : ∀ x c, X.env.cells.lookup x = some c → ∀ v, s.heap.IsCell c v → h'.IsCell c v := fun x c e v ⟨o, ho, hd⟩ => by
    have nch : c ∉ ch := fun z => (hch c z).2.2.1 x c e rfl
    by_cases hc : c ∈ X.fs
    · obtain ⟨sl, q⟩ := slot c o (I.cne x c e) hc nch ho (I.freeC x c e)
      exact ⟨_, q, hd⟩
    · exact ⟨o, keep c o (I.cne x c e) hc nch ho (I.freeC x c e), hd⟩
  refine ⟨I.ok, I.os, hg, ⟨fun b o e n hb hx => ?_, fun b o e n hb hx => ?_, fun b o e n hx => ?_, fun b o e hx => ?_, fun b xs e => tups b xs (I.base.tups b xs e), fun b o xs e => frzs b o xs (I.base.frzs b o xs e), fun b ps e => ?_⟩, ?_, fun x c e => ?_, ?_, fun x c e => ?_, fun p hp => ?_, hok, I.len⟩
  · exact keep b o (neL b o e) hb (neC b o e hx) (I.base.keep b o e n hb hx) (I.base.free b o e n hx)
  · obtain ⟨sl, e1⟩ := I.base.slot b o e n hb hx
    obtain ⟨sl', e2⟩ := slot b _ (neL b o e) hb (neC b o e hx) e1 (I.base.free b o e n hx)
    exact ⟨sl', e2⟩
  · obtain ⟨o', e1⟩ := I.base.there b o e hx
    exact free b o' (neC b o e hx) e1 (I.base.free b o e n hx)
  · obtain ⟨o', e1⟩ := I.base.there b o e hx
    exact there b o' (neC b o e hx) e1
  · obtain ⟨m1, e1⟩ := I.base.tbls b ps e
    obtain ⟨m2, e2⟩ := tbls b _ e1
    exact ⟨m1 ++ m2, by rw [e2, Array.append_assoc]⟩
  · obtain ⟨m, hn, hl⟩ := I.loc
    refine ⟨m, ns m hn, fun i x v e1 e2 e3 => ?_⟩
    obtain ⟨u, r, l⟩ := hl i x v e1 e2 e3
    refine ⟨u, r, ?_⟩
    rcases l with l | ⟨k, c, e, z⟩
    · exact .inl l
    · exact .inr ⟨k, c, e, cellK x c e _ z⟩
  · obtain ⟨v, z⟩ := I.cell x c e
    exact ⟨v, cellK x c e v z⟩
  · obtain ⟨m, ⟨o, _, _, ho, _⟩, _⟩ := I.loc
    exact free _ o (fun z => (hch _ z).2.1 rfl) ho I.free
  · obtain ⟨v, o, ho, hd⟩ := I.cell x c e
    exact free c o (fun z => (hch c z).2.2.1 x c e rfl) ho (I.freeC x c e)
  · obtain ⟨e, n, ne, nf, d⟩ := I.pin p hp
    have nch : p.1 ∉ ch := fun z => (hch p.1 z).2.2.2 p hp rfl
    exact ⟨keep p.1 p.2 ne nf nch e n, free p.1 p.2 nch e n, ne, nf, d⟩
/-- .. where the frame's own object is kept too -/
theorem Inv.un {t' : Nat} (I : Inv X pins σ H s) (u : Un X.fs [] H H' s.heap h') (hok : HOk X.prog X.w H' h') : Inv X pins σ H' { s with heap := h', toks := t' } := by
  obtain ⟨m, ⟨o, es, ep, ho, r⟩, _⟩ := id I.loc
  obtain ⟨sl, hL⟩ := u.any ho I.free (by simp)
  exact I.step (g' := s.gens) (d' := s.drawn) (ch := []) (fun _ z => nomatch z) (fun b o _ hb _ e n => u.keep b o e n hb (by simp)) (fun b o _ hb _ e n => u.slot b o e n hb (by simp)) (fun b o _ e n => u.free b o e n (by simp)) (fun b o _ e => u.there b o e (by simp)) u.tups u.frzs u.tbls (fun m' hm => by
    obtain ⟨o', es', ep', ho', r'⟩ := hm
    rw [ho] at ho'; cases ho'
    exact ⟨_, es', ep', hL, r'⟩) hok I.bare
/-- behind a call (or a comprehension's block): the slots of this frame may have changed too, the records at ch may have turned -/
theorem Inv.call {g' : Array GenState} {t' : Nat} {d' : Drawn} {ch : List Addr} (I : Inv X pins σ H s) (u : Un (frs X.stack) ch H H' s.heap h') (hok : HOk X.prog X.w H' h') (hg : AllBare g')
    (hch : ∀ b ∈ ch, (b ∈ X.ex ∨ X.s₀.heap.objs.size ≤ b) ∧ b ≠ X.env.locals ∧ (∀ x c, X.env.cells.lookup x = some c → c ≠ b) ∧ ∀ p ∈ X.pn ++ pins, p.1 ≠ b) :
    Inv X pins σ H' { s with heap := h', gens := g', drawn := d', toks := t' } := by
  obtain ⟨m, ⟨o, es, ep, ho, r⟩, _⟩ := id I.loc
  obtain ⟨sl, hL⟩ := u.any ho I.free fun z => (hch _ z).2.1 rfl
  exact I.step (ch := ch) hch (fun b o hL hb hc e n => u.keep b o e n (fun z => (List.mem_cons.mp (I.stkSub b z)).elim hL hb) hc) (fun b o _ _ hc e n => u.any e n hc) (fun b o hc e n => u.free b o e n hc) (fun b o hc e => u.there b o e hc) u.tups u.frzs u.tbls (fun m' hm => by
    obtain ⟨o', es', ep', ho', r'⟩ := hm
    rw [ho] at ho'; cases ho'
    exact ⟨_, es', ep', hL, r'⟩) hok hg
/-- an untracked record of ours (an iterator) has turned -/
theorem Inv.turned {t' : Nat} {it : Addr} (I : Inv X pins σ H s) (k : ∀ b o, b ≠ it → s.heap.get? b = some o → h'.get? b = some o) (hn : H it = none) (hL : it ≠ X.env.locals)
    (h1 : it ∈ X.ex ∨ X.s₀.heap.objs.size ≤ it) (h2 : ∀ x c, X.env.cells.lookup x = some c → c ≠ it) (h3 : ∀ p ∈ X.pn ++ pins, p.1 ≠ it) : Inv X pins σ H { s with heap := h', toks := t' } := by
  have nit : ∀ b u, H b = some u → b ≠ it := fun b u e z => by rw [z, hn] at e; cases e
  refine I.step (g' := s.gens) (d' := s.drawn) (ch := [it]) (fun b hb => ?_) (fun b o _ _ hc e _ => k b o (fun z => hc (by simp [z])) e) (fun b o _ _ hc e _ => ⟨o.slots, k b o (fun z => hc (by simp [z])) e⟩) (fun _ _ _ _ n => n)
    (fun b o hc e => ⟨o, k b o (fun z => hc (by simp [z])) e⟩) (fun _ _ e => e) (fun _ _ _ e => e) (fun b ps e => ⟨#[], by rw [e]; simp⟩) (fun m hm => ?_) (fun b u e => ?_) I.bare
  · have e : b = it := by simpa using hb
    subst e
    exact ⟨h1, hL, h2, h3⟩
  · obtain ⟨o, es, ep, ho, r⟩ := hm
    exact ⟨o, es, ep, k _ o (Ne.symm hL) ho, r⟩
  · refine (I.hok b u e).stay (fun c v hc q => k c v ?_ q) (fun _ q => q) fun _ _ q => q
    rcases hc with z | z
    · rw [z]; exact nit b u e
    · exact nit c _ z
theorem Inv.tok (I : Inv X pins σ H s) (t : Nat) : Inv X pins σ H { s with toks := t } := I.un (h' := s.heap) (t' := t) Un.refl I.hok
/-- all objects kept -/
theorem Inv.kept {t' : Nat} (I : Inv X pins σ H s) (k : ∀ b u, s.heap.get? b = some u → h'.get? b = some u) : Inv X pins σ H { s with heap := h', toks := t' } := I.un (Un.kept k) (I.hok.kept k)
/-- a new object laid and tracked -/
theorem Inv.laid {a : Addr} {o : HO} {t' : Nat} (I : Inv X pins σ H s) (k : ∀ b u, s.heap.get? b = some u → h'.get? b = some u) (hp : s.heap.objs.size ≤ a) (new : ObjOk X.prog X.w (upd H a o) h' a o) :
    Inv X pins σ (upd H a o) { s with heap := h', toks := t' } := I.un (Un.laid k hp (I.hok.fresh hp)) (I.hok.laid k hp new)
/-- an object written -/
theorem Inv.write {x e : Addr} {o : HO} {t' : Nat} (I : Inv X pins σ H s) (mu : Mut (H x)) (he : e = x ∨ H e = some (.own x)) (k : ∀ b u, b ≠ e → s.heap.get? b = some u → h'.get? b = some u) (heo : ∃ u, h'.get? e = some u)
    (new : ObjOk X.prog X.w (upd H x o) h' x o) : Inv X pins σ (upd H x o) { s with heap := h', toks := t' } := I.un (Un.write mu he k heo) (I.hok.write mu he k heo new)
theorem Inv.pins_of {pins' : List (Addr × Obj)} (I : Inv X pins σ H s) (h : ∀ p ∈ pins', s.heap.get? p.1 = some p.2 ∧ H p.1 = none ∧ p.1 ≠ X.env.locals ∧ p.1 ∉ X.fs ∧ ∀ v, p.2.data ≠ .cell v) : Inv X pins' σ H s :=
  ⟨I.ok, I.os, I.bare, I.base, I.loc, I.cell, I.free, I.freeC, fun p hp => (List.mem_append.mp hp).elim (fun z => I.pin p (List.mem_append_left _ z)) (h p), I.hok, I.len⟩

theorem nodup_ix {N : List Str} (hN : N.Nodup) {i j : Nat} {x : Str} (a : N[i]? = some x) (b : N[j]? = some x) : i = j := by
  obtain ⟨h1, e1⟩ := List.getElem?_eq_some_iff.mp a
  obtain ⟨h2, e2⟩ := List.getElem?_eq_some_iff.mp b
  exact (List.getElem_inj hN).mp (e1.trans e2.symm)

/-- a name is stored; what changed -/
theorem store_ok2 {M : Model} {A : Around} {E : Value → Shared → Prop} {i : Nat} {x : Str} {v : V} {u : Value} {Q : Unit → Shared → Prop} (I : Inv X pins σ H s) (hN : X.N.Nodup) (hi : X.N[i]? = some x) (hx : Loc X.env.scope x) (r : RelV v u)
    (h : ∀ s', Inv X pins (σ.set i (some v)) H s' → (∃ a, Heap.SameBut a s.heap s'.heap ∧ (a = X.env.locals ∨ X.env.cells.lookup x = some a)) → Q () s') (hf : X.fn x = true ∨ X.env.scope.names.lookup x = some .local := by first | exact .inl rfl | exact .inr rfl | assumption) : wpAny M A (storeName X.env x u) Q E s := by
  obtain ⟨m, hn, hl⟩ := id I.loc
  have hcls : (X.env.scope.kind == .class || (X.env.scope.kind == .module && X.env.locals != X.env.globals)) = false := by rw [I.ok.kind]; rfl
  have hiσ : i < σ.length := by rw [I.len]; exact (List.getElem?_eq_some_iff.mp hi).1
  have cne := I.cne
  have tracked : ∀ {a : Addr} {h' : Heap}, (∃ o, s.heap.get? a = some o ∧ H a = none) → Heap.SameBut a s.heap h' → HOk X.prog X.w H h' := fun {a h'} ha hs b ob e => by
    obtain ⟨_, _, hfree⟩ := ha
    refine (I.hok b ob e).stay (fun c w' hc q => (hs.2 c ?_).trans q) (fun _ q => q) fun _ _ q => q
    rintro rfl
    rcases hc with rfl | hc
    · rw [hfree] at e; cases e
    · rw [hfree] at hc; cases hc
  rcases hx with hk | hk
  · refine wpAny_storeName_local hk hn (fun h' hn' hs => ?_) hcls
    obtain ⟨oL, _, _, hoL, _⟩ := id hn
    refine h _ ⟨I.ok, I.os, I.bare, ⟨fun b o e n hb hx => ?_, fun b o e n hb hx => ?_, I.base.free, fun b o e hx => ?_, I.base.tups, I.base.frzs, I.base.tbls⟩, ⟨_, hn', fun j y v' e1 e2 e3 => ?_⟩, fun y c e => ?_, I.free, I.freeC, fun p hp => ?_, tracked ⟨oL, hoL, I.free⟩ hs, by simpa using I.len⟩ ⟨_, hs, .inl rfl⟩
    · exact (hs.2 b (Nat.ne_of_lt (Nat.lt_of_lt_of_le (Heap.lt_size e) I.ok.above))).trans (I.base.keep b o e n hb hx)
    · obtain ⟨sl, e1⟩ := I.base.slot b o e n hb hx
      exact ⟨sl, (hs.2 b (Nat.ne_of_lt (Nat.lt_of_lt_of_le (Heap.lt_size e) I.ok.above))).trans e1⟩
    · obtain ⟨o', e1⟩ := I.base.there b o e hx
      exact ⟨o', (hs.2 b (Nat.ne_of_lt (Nat.lt_of_lt_of_le (Heap.lt_size e) I.ok.above))).trans e1⟩
    · by_cases hj : j = i
      · subst hj
        rw [hi] at e1; cases e1
        rw [List.getElem?_set_self hiσ] at e2
        cases e2
        exact ⟨u, r, .inl ⟨hk, by simp⟩⟩
      · rw [List.getElem?_set_ne (Ne.symm hj)] at e2
        obtain ⟨u', r', q⟩ := hl j y v' e1 e2 e3
        refine ⟨u', r', ?_⟩
        rcases q with ⟨k, e⟩ | ⟨k, c, e, z⟩
        · refine .inl ⟨k, ?_⟩
          have : y ≠ x := fun e => hj (nodup_ix hN e1 (e ▸ hi))
          simp [this, e]
        · exact .inr ⟨k, c, e, z.sameBut hs (cne y c e)⟩
    · obtain ⟨w', z⟩ := I.cell y c e
      exact ⟨w', z.sameBut hs (cne y c e)⟩
    · obtain ⟨e, n, ne, nf, d⟩ := I.pin p hp
      exact ⟨(hs.2 p.1 ne).trans e, n, ne, nf, d⟩
  · have hfn : X.fn x = true := by
      rcases hf with z | z
      · exact z
      · rw [z] at hk; cases hk
    obtain ⟨c, hc⟩ := I.ok.has x (.inl hk)
    obtain ⟨w', z⟩ := I.cell x c hc
    refine wpAny_storeName_cell I.ok.kind hk hc z (fun h' hc' hs => ?_)
    obtain ⟨oc, hoc, hocd⟩ := id z
    refine h { s with heap := h' } ⟨I.ok, I.os, I.bare, ⟨fun b o e n hb hx => ?_, fun b o e n hb hx => ?_, I.base.free, fun b o e hx => ?_, I.base.tups, I.base.frzs, I.base.tbls⟩, ⟨m, hn.sameBut hs (Ne.symm (cne x c hc)), fun j y v' e1 e2 e3 => ?_⟩, fun y c' e => ?_, I.free, I.freeC, fun p hp => ?_, tracked ⟨oc, hoc, I.freeC x c hc⟩ hs, by simpa using I.len⟩ ⟨c, hs, .inr hc⟩
    · exact (hs.2 b (Nat.ne_of_lt (Nat.lt_of_lt_of_le (Heap.lt_size e) (I.ok.cab x c hfn hc)))).trans (I.base.keep b o e n hb hx)
    · obtain ⟨sl, e1⟩ := I.base.slot b o e n hb hx
      exact ⟨sl, (hs.2 b (Nat.ne_of_lt (Nat.lt_of_lt_of_le (Heap.lt_size e) (I.ok.cab x c hfn hc)))).trans e1⟩
    · obtain ⟨o', e1⟩ := I.base.there b o e hx
      exact ⟨o', (hs.2 b (Nat.ne_of_lt (Nat.lt_of_lt_of_le (Heap.lt_size e) (I.ok.cab x c hfn hc)))).trans e1⟩
    · by_cases hj : j = i
      · subst hj
        rw [hi] at e1; cases e1
        rw [List.getElem?_set_self hiσ] at e2
        cases e2
        exact ⟨u, r, .inr ⟨.inl hk, c, hc, hc'⟩⟩
      · rw [List.getElem?_set_ne (Ne.symm hj)] at e2
        obtain ⟨u', r', q⟩ := hl j y v' e1 e2 e3
        refine ⟨u', r', ?_⟩
        rcases q with q | ⟨k, c', e, z'⟩
        · exact .inl q
        · refine .inr ⟨k, c', e, z'.sameBut hs ?_⟩
          rintro rfl
          exact hj (nodup_ix hN e1 (I.ok.inj _ _ _ e hc ▸ hi))
    · by_cases hcc : c' = c
      · subst hcc; exact ⟨_, hc'⟩
      · obtain ⟨w2, z2⟩ := I.cell y c' e
        exact ⟨w2, z2.sameBut hs hcc⟩
    · obtain ⟨e, n, ne, nf, d⟩ := I.pin p hp
      refine ⟨(hs.2 p.1 ?_).trans e, n, ne, nf, d⟩
      intro q
      rw [q, hoc] at e
      have q' : oc = p.2 := Option.some.inj e
      exact d w' (by rw [← q']; exact hocd)
theorem store_ok {M : Model} {A : Around} {E : Value → Shared → Prop} {i : Nat} {x : Str} {v : V} {u : Value} {Q : Unit → Shared → Prop} (I : Inv X pins σ H s) (hN : X.N.Nodup) (hi : X.N[i]? = some x) (hx : Loc X.env.scope x) (r : RelV v u)
    (h : ∀ s', Inv X pins (σ.set i (some v)) H s' → Q () s') (hf : X.fn x = true ∨ X.env.scope.names.lookup x = some .local := by first | exact .inl rfl | exact .inr rfl | assumption) : wpAny M A (storeName X.env x u) Q E s :=
  store_ok2 I hN hi hx r (fun s' I' _ => h s' I') hf
/-- behind a call or a block, the state as it is -/
theorem Inv.call' {s' : Shared} {ch : List Addr} (I : Inv X pins σ H s) (ho : s'.os = s.os) (u : Un (frs X.stack) ch H H' s.heap s'.heap) (hok : HOk X.prog X.w H' s'.heap) (hg : AllBare s'.gens)
    (hch : ∀ b ∈ ch, (b ∈ X.ex ∨ X.s₀.heap.objs.size ≤ b) ∧ b ≠ X.env.locals ∧ (∀ x c, X.env.cells.lookup x = some c → c ≠ b) ∧ ∀ p ∈ X.pn ++ pins, p.1 ≠ b) : Inv X pins σ H' s' := by
  obtain ⟨h', g', d', t', o'⟩ := s'
  have e : o' = s.os := ho
  subst e
  exact I.call (g' := g') (t' := t') (d' := d') u hok hg hch
end

/-! ### the judgements -/
/-- an exception: its class, its own dict's address (where it has one), the abstract heap behind it -/
abbrev XK := Value → Option Addr → Hp → Prop
abbrev St := List (Option V)
abbrev VK := V → Hp → Prop
/-- an expression's reading; a test's; an argument list's -/
abbrev TE := St → Hp → VK → Prop
abbrev TT := St → Hp → (Bool → Hp → Prop) → Prop
abbrev TA := St → Hp → (List V → Hp → Prop) → Prop
/-- what is wanted behind a statement -/
structure Ends where
  nx : St → Hp → Prop
  rt : VK
  bk : St → Hp → Prop := fun _ _ => False
  ct : St → Hp → Prop := fun _ _ => False
abbrev TS := Ends → St → Hp → Prop

def EP (X : Cx) (pins : List (Addr × Obj)) (σ : St) (Q : VK) (u : Value) (s' : Shared) : Prop := ∃ v H', Inv X pins σ H' s' ∧ RelV v u ∧ Q v H'
def TP (X : Cx) (pins : List (Addr × Obj)) (σ : St) (Q : Bool → Hp → Prop) (b : Bool) (s' : Shared) : Prop := ∃ H', Inv X pins σ H' s' ∧ Q b H'
def AP (X : Cx) (pins : List (Addr × Obj)) (σ : St) (Q : List V → Hp → Prop) (us : List Value) (s' : Shared) : Prop := ∃ vs H', Inv X pins σ H' s' ∧ Vals vs us ∧ Q vs H'
def SP (X : Cx) (pins : List (Addr × Obj)) (D : Ends) (f : Flow) (s' : Shared) : Prop :=
  match f with
  | .next => ∃ σ' H', Inv X pins σ' H' s' ∧ D.nx σ' H'
  | .brk => ∃ σ' H', Inv X pins σ' H' s' ∧ D.bk σ' H'
  | .cont => ∃ σ' H', Inv X pins σ' H' s' ∧ D.ct σ' H'
  | .ret u => ∃ v σ' H', Inv X pins σ' H' s' ∧ RelV v u ∧ D.rt v H'

def PE (X : Cx) (e : Expr) (t : TE) : Prop :=
  ∀ (pins : List (Addr × Obj)) (s : Shared) (σ : St) (H : Hp) (Q : VK), Inv X pins σ H s → t σ H Q → wpAny (model X.prog X.w) X.A (eval e X.env) (EP X pins σ Q) X.xe s
def PT (X : Cx) (e : Expr) (t : TT) : Prop :=
  ∀ (pins : List (Addr × Obj)) (s : Shared) (σ : St) (H : Hp) (Q : Bool → Hp → Prop), Inv X pins σ H s → t σ H Q → wpAny (model X.prog X.w) X.A (isTrue e X.env (eval e X.env)) (TP X pins σ Q) X.xe s
/-- a test whatever its 'whole' is (and, or) -/
def PW (X : Cx) (e : Expr) (t : TT) : Prop :=
  ∀ (whole : Sem Value) (pins : List (Addr × Obj)) (s : Shared) (σ : St) (H : Hp) (Q : Bool → Hp → Prop), Inv X pins σ H s → t σ H Q → wpAny (model X.prog X.w) X.A (isTrue e X.env whole) (TP X pins σ Q) X.xe s
theorem PW.pt {X : Cx} {e : Expr} {t : TT} (h : PW X e t) : PT X e t := h _
/-- an argument list (no star), from the left -/
def PA (X : Cx) (es : List Expr) (t : TA) : Prop :=
  ∀ (pos : Pos) (pins : List (Addr × Obj)) (s : Shared) (σ : St) (H : Hp) (Q : List V → Hp → Prop), Inv X pins σ H s → t σ H Q → wpAny (model X.prog X.w) X.A (spliced (backTo pos (starEach es X.env))) (AP X pins σ Q) X.xe s
def PS (X : Cx) (st : Stmt) (t : TS) : Prop :=
  ∀ (pins : List (Addr × Obj)) (s : Shared) (σ : St) (H : Hp) (D : Ends), Inv X pins σ H s → t D σ H → wpAny (model X.prog X.w) X.A (exec st X.env) (SP X pins D) X.xe s
def PSs (X : Cx) (st : List Stmt) (t : TS) : Prop :=
  ∀ (pins : List (Addr × Obj)) (s : Shared) (σ : St) (H : Hp) (D : Ends), Inv X pins σ H s → t D σ H → wpAny (model X.prog X.w) X.A (execs st X.env) (SP X pins D) X.xe s
/-- weaken the end -/
theorem thn {α : Type} {t : Sem α} {Q Q' : α → Shared → Prop} {M : Model} {A : Around} {E : Value → Shared → Prop} {s : Shared} (h : wpAny M A t Q E s) (hQ : ∀ a s, Q a s → Q' a s) : wpAny M A t Q' E s := wpAny_mono h hQ fun _ _ x => x
end L2

namespace L2
open PySem PySem.Spec PyProof.Rows
section
variable {X : Cx}

/-! ### names and constants -/
def tVar (i : Nat) : TE := fun σ H Q => ∃ v, σ[i]? = some (some v) ∧ Q v H
def tC (v : V) : TE := fun _ H Q => Q v H
theorem pe_var {i : Nat} {x : Str} {pos : Pos} (hN : X.N[i]? = some x) (hv : Vis X.env.scope x) (hd : (x == ("__debug__" : Str)) = false := by decide) (hcd : (x == ("__classdict__" : Str)) = false := by decide) : PE X (.Name x pos) (tVar i) := by
  intro pins s σ H Q I h
  obtain ⟨v, e, h⟩ := h
  obtain ⟨m, hn, hl⟩ := I.loc
  obtain ⟨u, r, l⟩ := hl i x v hN e hv
  have fin : EP X pins σ Q u s := ⟨v, H, I, r, h⟩
  rcases l with ⟨hk, hm⟩ | ⟨hk, c, hc, hcell⟩
  · exact wpAny_Name (wpAny_loadName_local I.ok.kind hk hn hm fin) hd
  · rcases hk with hk | hk
    · exact wpAny_Name (wpAny_loadName_cell I.ok.kind hk hc hcell fin) hd
    · exact wpAny_Name (wpAny_loadName_free I.ok.kind hk hc hcell fin hcd) hd
theorem pe_int {i j pos} : PE X (.Constant (.int i) j pos) (tC (.int i)) := fun _ _ _ H _ I h => wpAny_Constant_int ⟨.int i, H, I.tok _, ⟨_, rfl⟩, h⟩
theorem pe_bl {b j pos} : PE X (.Constant (.bool b) j pos) (tC (.bl b)) := fun _ _ _ H _ I h => Constant_bool ⟨.bl b, H, I, rfl, h⟩
theorem pe_non {j pos} : PE X (.Constant .none j pos) (tC .non) := fun _ _ _ H _ I h => Constant_none ⟨.non, H, I, rfl, h⟩
theorem pe_str {x j pos} : PE X (.Constant (.str x) j pos) (tC (.str x)) := fun _ _ _ H _ I h => Calls.Constant_str ⟨.str x, H, I.tok _, ⟨_, rfl⟩, h⟩

/-- a global name of the def -/
def Gl (X : Cx) (x : Str) : Prop := X.env.kindOf x = some .globalImplicit
theorem ld_glob {E : Value → Shared → Prop} {pins : List (Addr × Obj)} {s : Shared} {σ : St} {H : Hp} {x : Str} {u : Value} {pos : Pos} {Q : Value → Shared → Prop} (I : Inv X pins σ H s) (hg : Gl X x) (hm : X.mg x = some u) (h : Q u s)
    (hd : (x == ("__debug__" : Str)) = false := by decide) : wpAny (model X.prog X.w) X.A (eval (.Name x pos) X.env) Q E s :=
  Calls.Name_function_global I.ok.kind hg (Calls.loadGlobal_global (by rw [I.ok.glob]; exact I.mod.glob.keeps I.bk) hm h) hd
theorem ld_blt {E : Value → Shared → Prop} {pins : List (Addr × Obj)} {s : Shared} {σ : St} {H : Hp} {x : Str} {u : Value} {pos : Pos} {Q : Value → Shared → Prop} (I : Inv X pins σ H s) (hg : Gl X x) (hm : X.mg x = none) (hv : bootBuiltins x = some u) (h : Q u s)
    (hn : x ≠ "__name__" := by decide) (hd : (x == ("__debug__" : Str)) = false := by decide) : wpAny (model X.prog X.w) X.A (eval (.Name x pos) X.env) Q E s := by
  obtain ⟨mb, h1, h2⟩ := I.mod.blt
  exact Calls.Name_function_global I.ok.kind hg (Calls.loadGlobal_builtin (by rw [I.ok.glob]; exact I.mod.glob.keeps I.bk) hm (by rw [I.ok.blt]; exact h1.keeps I.bk) ((h2 x hn).trans hv) h) hd
theorem pe_bltn {x : Str} {v : V} {u : Value} {pos : Pos} (hg : Gl X x) (hm : X.mg x = none) (hv : bootBuiltins x = some u) (r : RelV v u) (hn : x ≠ "__name__" := by decide) (hd : (x == ("__debug__" : Str)) = false := by decide) : PE X (.Name x pos) (tC v) :=
  fun _ _ _ H _ I h => ld_blt I hg hm hv ⟨v, H, I, r, h⟩ hn hd

/-! ### arithmetic -/
/-- two ints -/
def t2I (ta tb : TE) (k : Int → Int → Hp → Prop) : St → Hp → Prop := fun σ H => ta σ H fun x H1 => tb σ H1 fun y H2 => ∃ i j, x = .int i ∧ y = .int j ∧ k i j H2
def tAdd (ta tb : TE) : TE := fun σ H Q => t2I ta tb (fun i j H2 => Q (.int (i + j)) H2) σ H
def tSub (ta tb : TE) : TE := fun σ H Q => t2I ta tb (fun i j H2 => Q (.int (i - j)) H2) σ H
/-- the left factor below 2^64 -/
def tMul (ta tb : TE) : TE := fun σ H Q => t2I ta tb (fun i j H2 => (-(2 ^ 64) < i ∧ i < 2 ^ 64) ∧ Q (.int (i * j)) H2) σ H
variable {a b : Expr} {ta tb : TE} {pos : Pos}
/-! ### comparisons -/
def PC (X : Cx) (op : CmpOp) (a b : Expr) (t : TE) : Prop :=
  ∀ (pins : List (Addr × Obj)) (s : Shared) (σ : St) (H : Hp) (Q : VK), Inv X pins σ H s → t σ H Q →
    wpAny (model X.prog X.w) X.A (eval a X.env) (fun v s₁ => wpAny (model X.prog X.w) X.A (eval b X.env) (fun u s₂ => wpAny (model X.prog X.w) X.A (compareOp op v u) (EP X pins σ Q) X.xe s₂) X.xe s₁) X.xe s
def tCmp (p : Int → Int → Bool) (ta tb : TE) : TE := fun σ H Q => t2I ta tb (fun i j H2 => Q (.bl (p i j)) H2) σ H
abbrev tLt : TE → TE → TE := tCmp fun i j => decide (i < j)
abbrev tLe : TE → TE → TE := tCmp fun i j => decide (i ≤ j)
abbrev tGt : TE → TE → TE := tCmp fun i j => decide (j < i)
abbrev tGe : TE → TE → TE := tCmp fun i j => decide (j ≤ i)
abbrev tEqI : TE → TE → TE := tCmp fun i j => decide (i = j)
abbrev tNeI : TE → TE → TE := tCmp fun i j => !decide (i = j)
/-- is None -/
def tIsN (ta : TE) : TE := fun σ H Q => ta σ H fun x H1 => Q (.bl (decide (x = .non))) H1
def tNotN (ta : TE) : TE := fun σ H Q => ta σ H fun x H1 => Q (.bl (!decide (x = .non))) H1
/-- a comparison as a value, as a test -/
def tB (t : TE) : TT := fun σ H Q => t σ H fun x H1 => ∃ c, x = .bl c ∧ Q c H1
/-- an expression whose value is a bool, as a test -/
theorem pt_val {e : Expr} {t : TE} (h : PE X e t) (he : ∀ whole, isTrue e X.env whole = (do let v ← whole; standAt e.pos; holding [v] (truthy v)) := by intro _; rfl) : PT X e (tB t) := by
  intro pins s σ H Q I hw
  refine isTrue_plain (thn (h pins s σ H _ I hw) fun v s1 ⟨x, H1, I1, r1, q1⟩ => ?_) (he _)
  obtain ⟨d, rfl, q⟩ := q1
  cases r1
  exact wpAny_truthy_bool ⟨H1, I1, q⟩

/-! ### and, or, not -/
variable {tA tB' : TT} {rest : List Expr}
def tAnd (t u : TT) : TT := fun σ H Q => t σ H fun c H1 => if c = true then u σ H1 Q else Q false H1
def tOr (t u : TT) : TT := fun σ H Q => t σ H fun c H1 => if c = true then Q true H1 else u σ H1 Q
def tNot (t : TT) : TT := fun σ H Q => t σ H fun c H1 => Q (!c) H1
theorem pw_and1 (ha : PT X a tA) : PW X (.BoolOp .And [a] pos) tA := by
  intro wh pins s σ H Q I h
  refine isTrue_and (thn (ha pins s σ H Q I h) fun c s1 e => ?_)
  cases c with
  | true => exact isTrue_and_nil e
  | false => exact e
theorem pw_or1 (ha : PT X a tA) : PW X (.BoolOp .Or [a] pos) tA := by
  intro wh pins s σ H Q I h
  refine isTrue_or (thn (ha pins s σ H Q I h) fun c s1 e => ?_)
  cases c with
  | false => exact isTrue_or_nil e
  | true => exact e
theorem pw_and (ha : PT X a tA) (hb : PW X (.BoolOp .And (b :: rest) pos) tB') : PW X (.BoolOp .And (a :: b :: rest) pos) (tAnd tA tB') := by
  intro wh pins s σ H Q I h
  refine isTrue_and (thn (ha pins s σ H _ I h) fun c s1 ⟨H1, I1, q1⟩ => ?_)
  cases c with
  | true => exact hb wh pins s1 σ H1 Q I1 q1
  | false => exact ⟨H1, I1, q1⟩
theorem pw_or (ha : PT X a tA) (hb : PW X (.BoolOp .Or (b :: rest) pos) tB') : PW X (.BoolOp .Or (a :: b :: rest) pos) (tOr tA tB') := by
  intro wh pins s σ H Q I h
  refine isTrue_or (thn (ha pins s σ H _ I h) fun c s1 ⟨H1, I1, q1⟩ => ?_)
  cases c with
  | true => exact ⟨H1, I1, q1⟩
  | false => exact hb wh pins s1 σ H1 Q I1 q1
theorem pt_not (ha : PT X a tA) : PT X (.UnaryOp .Not a pos) (tNot tA) := by
  intro pins s σ H Q I h
  exact isTrue_not (ha pins s σ H (fun c H1 => Q (!c) H1) I h)
/-- .. as values (bools) -/
def tAndV (ta tb : TE) : TE := fun σ H Q => ta σ H fun x H1 => ∃ c, x = .bl c ∧ if c = true then tb σ H1 Q else Q (.bl false) H1
def tOrV (ta tb : TE) : TE := fun σ H Q => ta σ H fun x H1 => ∃ c, x = .bl c ∧ if c = true then Q (.bl true) H1 else tb σ H1 Q
def tNotV (ta : TE) : TE := fun σ H Q => ta σ H fun x H1 => ∃ c, x = .bl c ∧ Q (.bl (!c)) H1
theorem pe_one {op} {t : TE} (h : PE X a t) : PE X (.BoolOp op [a] pos) t := fun pins s σ H Q I hw => BoolOp_one (h pins s σ H Q I hw)
theorem pe_and (ha : PE X a ta) (hb : PE X (.BoolOp .And (b :: rest) pos) tb) : PE X (.BoolOp .And (a :: b :: rest) pos) (tAndV ta tb) := by
  intro pins s σ H Q I h
  refine BoolOp_and (thn (ha pins s σ H _ I h) fun v s1 ⟨x, H1, I1, r1, q1⟩ => ?_)
  obtain ⟨c, rfl, q1⟩ := q1
  cases r1
  refine wpAny_truthy_bool ?_
  cases c with
  | true => exact hb pins s1 σ H1 Q I1 q1
  | false => exact ⟨.bl false, H1, I1, rfl, q1⟩
theorem pe_or (ha : PE X a ta) (hb : PE X (.BoolOp .Or (b :: rest) pos) tb) : PE X (.BoolOp .Or (a :: b :: rest) pos) (tOrV ta tb) := by
  intro pins s σ H Q I h
  refine BoolOp_or (thn (ha pins s σ H _ I h) fun v s1 ⟨x, H1, I1, r1, q1⟩ => ?_)
  obtain ⟨c, rfl, q1⟩ := q1
  cases r1
  refine wpAny_truthy_bool ?_
  cases c with
  | false => exact hb pins s1 σ H1 Q I1 q1
  | true => exact ⟨.bl true, H1, I1, rfl, q1⟩
theorem pe_not (ha : PE X a ta) : PE X (.UnaryOp .Not a pos) (tNotV ta) := by
  intro pins s σ H Q I h
  refine UnaryOp_ (thn (ha pins s σ H _ I h) fun v s1 ⟨x, H1, I1, r1, q1⟩ => ?_)
  obtain ⟨c, rfl, q1⟩ := q1
  cases r1
  exact not_of (wpAny_truthy_bool ⟨.bl (!c), H1, I1, rfl, q1⟩)
/-- a if t else b -/
def tIf (t : TT) (ta tb : TE) : TE := fun σ H Q => t σ H fun c H1 => if c = true then ta σ H1 Q else tb σ H1 Q
theorem pe_ifExp {c : Expr} (hc : PT X c tA) (ha : PE X a ta) (hb : PE X b tb) : PE X (.IfExp c a b pos) (tIf tA ta tb) := by
  intro pins s σ H Q I h
  refine wpAny_IfExp (thn (hc pins s σ H _ I h) fun d s1 ⟨H1, I1, q1⟩ => ?_)
  cases d with
  | true => exact ha pins s1 σ H1 Q I1 q1
  | false => exact hb pins s1 σ H1 Q I1 q1
end
end L2

namespace L2
open PySem PySem.Spec PyProof.Rows

/-! ### a list, a tuple that is read: tracked, frozen, or an object of the module -/
def SqL (K : PySem.W.Frag) (H : Hp) (a : Addr) (xs : List V) : Prop :=
  Rd H a (.lst xs) ∨
    ∃ (o : Obj) (its : Array Value) (n : Nat), K.lookup a = some o ∧ o.cls = .type "list" ∧ o.dict = none ∧ o.data = .seq its n ∧ its.size ≤ sizeLine ∧ Vals xs its.toList
def SqT (K : PySem.W.Frag) (H : Hp) (a : Addr) (xs : List V) : Prop :=
  Rd H a (.tup xs) ∨
    ∃ (o : Obj) (its : Array Value) (n : Nat), K.lookup a = some o ∧ o.cls = .type "tuple" ∧ o.data = .seq its n ∧ its.size ≤ sizeLine ∧ Vals xs its.toList
def absV : Value → Option V
  | .none => some .non
  | .bool b => some (.bl b)
  | .int i _ => some (.int i)
  | .str x _ => some (.str x)
  | .bytes b _ => some (.byt b)
  | .float b _ => some (.flt b)
  | .ref a => some (.ref a)
  | .type n => some (.ty n)
  | _ => none
theorem RelV.abs {x : V} {u : Value} (r : RelV x u) : absV u = some x := by
  cases x with
  | non => cases r; rfl
  | bl _ => cases r; rfl
  | int _ => obtain ⟨t, rfl⟩ := r; rfl
  | str _ => obtain ⟨t, rfl⟩ := r; rfl
  | byt _ => obtain ⟨t, rfl⟩ := r; rfl
  | flt _ => obtain ⟨t, rfl⟩ := r; rfl
  | ref _ => cases r; rfl
  | ty _ => cases r; rfl
theorem RelV.inj {x y : V} {u : Value} (r : RelV x u) (q : RelV y u) : x = y := Option.some.inj (r.abs.symm.trans q.abs)
theorem Vals.inj : ∀ {xs ys : List V} {us : List Value}, Vals xs us → Vals ys us → xs = ys
  | _, _, _, .nil, .nil => rfl
  | _, _, _, .cons r t, .cons r' t' => by rw [r.inj r', Vals.inj t t']
section
variable {X : Cx} {pins : List (Addr × Obj)} {σ : St} {H : Hp} {s : Shared} {a : Addr} {xs ys : List V}
theorem SqL.of {K : PySem.W.Frag} (h : H a = some (.lst xs)) : SqL K H a xs := .inl (.inl h)
theorem SqT.of {K : PySem.W.Frag} (h : H a = some (.tup xs)) : SqT K H a xs := .inl (.inl h)
theorem Inv.list (I : Inv X pins σ H s) (h : SqL X.K H a xs) : ∃ its : List Value, Vals xs its ∧ PlainL s.heap a its.toArray ∧ xs.length ≤ sizeLine := by
  rcases h with h | ⟨o, its, n, hk, hc, hd, hs, hz, r⟩
  · obtain ⟨z, its, n, r, e⟩ := h.ok I.hok
    exact ⟨its, r, ⟨_, n, e, rfl, rfl, rfl⟩, z⟩
  · refine ⟨its.toList, r, ⟨o, n, I.kIn a o hk, hc, hd, by simpa using hs⟩, ?_⟩
    have e := r.length
    simp only [Array.length_toList] at e
    omega
theorem Inv.tuple (I : Inv X pins σ H s) (h : SqT X.K H a xs) : ∃ its : List Value, Vals xs its ∧ IsTup s.heap a its.toArray ∧ xs.length ≤ sizeLine := by
  rcases h with h | ⟨o, its, n, hk, hc, hs, hz, r⟩
  · obtain ⟨z, its, r, p⟩ := h.ok I.hok
    exact ⟨its, r, p, z⟩
  · refine ⟨its.toList, r, ⟨o, I.kIn a o hk, hc, n, by simpa using hs⟩, ?_⟩
    have e := r.length
    simp only [Array.length_toList] at e
    omega
theorem Inv.list_inj (I : Inv X pins σ H s) (h : SqL X.K H a xs) (h' : SqL X.K H a ys) : xs = ys := by
  obtain ⟨its, r, ⟨o, n, e, _, _, d⟩, _⟩ := I.list h
  obtain ⟨its', r', ⟨o', n', e', _, _, d'⟩, _⟩ := I.list h'
  rw [e] at e'; cases e'
  rw [d] at d'
  injection d' with d1 _
  have : its = its' := by simpa using congrArg Array.toList d1
  subst this
  exact r.inj r'
theorem Inv.tuple_inj (I : Inv X pins σ H s) (h : SqT X.K H a xs) (h' : SqT X.K H a ys) : xs = ys := by
  obtain ⟨its, r, ⟨o, e, _, n, d⟩, _⟩ := I.tuple h
  obtain ⟨its', r', ⟨o', e', _, n', d'⟩, _⟩ := I.tuple h'
  rw [e] at e'; cases e'
  rw [d] at d'
  injection d' with d1 _
  have : its = its' := by simpa using congrArg Array.toList d1
  subst this
  exact r.inj r'
end

/-! ### another wish about exceptions -/
abbrev Cx.wish (X : Cx) (E : Value → Shared → Prop) : Cx := { X with xe := E }
/-- no exception leaves -/
abbrev Cx.nox (X : Cx) : Cx := X.wish fun _ _ => False
theorem Cx.Ok.wish {X : Cx} (ok : X.Ok) (E : Value → Shared → Prop) : (X.wish E).Ok :=
  ⟨ok.mod, ok.kind, ok.glob, ok.blt, ok.above, ok.inj, ok.has, ok.cab, ok.hd, ok.frames, ok.stk, ok.exf, ok.bs, ok.bsz, ok.noex, ok.exfs, ok.funs, ok.frf⟩
theorem Cx.Ok.unwish {X : Cx} {E : Value → Shared → Prop} (ok : (X.wish E).Ok) : X.Ok :=
  ⟨ok.mod, ok.kind, ok.glob, ok.blt, ok.above, ok.inj, ok.has, ok.cab, ok.hd, ok.frames, ok.stk, ok.exf, ok.bs, ok.bsz, ok.noex, ok.exfs, ok.funs, ok.frf⟩
section
variable {X : Cx} {pins : List (Addr × Obj)} {σ : St} {H : Hp} {s : Shared} {E : Value → Shared → Prop}
theorem Inv.wish (I : Inv X pins σ H s) (E : Value → Shared → Prop) : Inv (X.wish E) pins σ H s := ⟨I.ok.wish E, I.os, I.bare, I.base, I.loc, I.cell, I.free, I.freeC, I.pin, I.hok, I.len⟩
theorem Inv.unwish (I : Inv (X.wish E) pins σ H s) : Inv X pins σ H s := ⟨I.ok.unwish, I.os, I.bare, I.base, I.loc, I.cell, I.free, I.freeC, I.pin, I.hok, I.len⟩
theorem SP.unwish {D : Ends} {f : Flow} {s' : Shared} (h : SP (X.wish E) pins D f s') : SP X pins D f s' := by
  cases f with
  | next => obtain ⟨σ', H', I, q⟩ := h; exact ⟨σ', H', I.unwish, q⟩
  | brk => obtain ⟨σ', H', I, q⟩ := h; exact ⟨σ', H', I.unwish, q⟩
  | cont => obtain ⟨σ', H', I, q⟩ := h; exact ⟨σ', H', I.unwish, q⟩
  | ret u => obtain ⟨v, σ', H', I, r, q⟩ := h; exact ⟨v, σ', H', I.unwish, r, q⟩
theorem PSs.nox {st : List Stmt} {t : TS} (h : PSs X.nox st t) : PSs X st t := fun pins s σ H D I hw =>
  wpAny_mono (h pins s σ H D (I.wish _) hw) (fun _ _ q => q.unwish) fun _ _ z => False.elim z
end

/-! ### blocks and small statements -/
section
variable {X : Cx} {st : Stmt} {rest : List Stmt} {t u : TS} {e : Expr} {te : TE} {pos : Pos}
def tNext : TS := fun D σ H => D.nx σ H
def tSeq (t u : TS) : TS := fun D σ H => t { D with nx := u D } σ H
theorem pss_nil : PSs X [] tNext := fun _ _ σ H _ I h => wpAny_execs_nil ⟨σ, H, I, h⟩
theorem pss_cons (h1 : PS X st t) (h2 : PSs X rest u) : PSs X (st :: rest) (tSeq t u) := by
  intro pins s σ H D I h
  refine wpAny_execs_cons (thn (h1 pins s σ H { D with nx := u D } I h) fun f s1 q => ?_)
  cases f with
  | next =>
    obtain ⟨σ', H', I', q⟩ := q
    exact h2 pins s1 σ' H' D I' q
  | ret v => exact q
  | brk => exact q
  | cont => exact q
theorem pss_one (h1 : PS X st t) : PSs X [st] t := by
  intro pins s σ H D I h
  refine wpAny_execs_cons (thn (h1 pins s σ H D I h) fun f s1 q => ?_)
  cases f with
  | next => exact wpAny_execs_nil q
  | ret v => exact q
  | brk => exact q
  | cont => exact q
def tBreak : TS := fun D σ H => D.bk σ H
def tCont : TS := fun D σ H => D.ct σ H
/-- in a def's body nothing is shown -/
theorem Inv.quiet {pins : List (Addr × Obj)} {σ : St} {H : Hp} {s : Shared} (I : Inv X pins σ H s) : interactive X.env = false := by simp [interactive, I.ok.kind]
/-- an expression whose value is dropped -/
def tDrop (te : TE) : TS := fun D σ H => te σ H fun _ H1 => D.nx σ H1
theorem ps_expr (he : PE X e te) (hs : swapsWith e none pos.line X.env = pure false := by rfl) : PS X (.Expr e pos) (tDrop te) := by
  intro pins s σ H D I h
  exact wpAny_Expr_any (thn (he pins s σ H _ I h) fun v s1 ⟨x, H1, I1, r1, q1⟩ => ⟨σ, H1, I1, q1⟩) I.quiet hs
def tRet (te : TE) : TS := fun D σ H => te σ H D.rt
theorem ps_ret (he : PE X e te) : PS X (.Return (some e) pos) (tRet te) := by
  intro pins s σ H D I h
  exact wpAny_Return_some (thn (he pins s σ H _ I h) fun v s1 ⟨x, H1, I1, r1, q1⟩ => ⟨x, σ, H1, I1, r1, q1⟩)
def tRetN : TS := fun D _ H => D.rt .non H
def tIfS (c : TT) (t u : TS) : TS := fun D σ H => c σ H fun b H1 => if b = true then t D σ H1 else u D σ H1
theorem ps_if {c : Expr} {a b : List Stmt} {tc : TT} (hc : PT X c tc) (ha : PSs X a t) (hb : PSs X b u) : PS X (.If c a b pos) (tIfS tc t u) := by
  intro pins s σ H D I h
  refine wpAny_If (thn (hc pins s σ H _ I h) fun d s1 ⟨H1, I1, q1⟩ => ?_)
  cases d with
  | true => exact ha pins s1 σ H1 D I1 q1
  | false => exact hb pins s1 σ H1 D I1 q1
/-- code that the proof never comes to -/
def tNever : TS := fun _ _ _ => False
end

/-! ### targets -/
abbrev TG := V → St → Hp → (St → Hp → Prop) → Prop
abbrev TGs := List V → St → Hp → (St → Hp → Prop) → Prop
def PG (X : Cx) (target : Expr) (t : TG) : Prop :=
  ∀ (pins : List (Addr × Obj)) (s : Shared) (σ : St) (H : Hp) (v : V) (u : Value) (Q : St → Hp → Prop), Inv X pins σ H s → RelV v u → t v σ H Q →
    wpAny (model X.prog X.w) X.A (assign target X.env u) (fun _ s' => ∃ σ' H', Inv X pins σ' H' s' ∧ Q σ' H') X.xe s
/-- several targets, one after another -/
def PGs (X : Cx) (ts : List Expr) (t : TGs) : Prop :=
  ∀ (pins : List (Addr × Obj)) (s : Shared) (σ : St) (H : Hp) (vs : List V) (us : List Value) (Q : St → Hp → Prop), Inv X pins σ H s → Vals vs us → t vs σ H Q →
    wpAny (model X.prog X.w) X.A (assignInOrder ((assignEach ts X.env).map (·.2)) us) (fun _ s' => ∃ σ' H', Inv X pins σ' H' s' ∧ Q σ' H') X.xe s
/-- o[i] = v, by values -/
abbrev TSet := V → V → V → Hp → (Hp → Prop) → Prop
def PSet (X : Cx) (t : TSet) : Prop :=
  ∀ (pins : List (Addr × Obj)) (s : Shared) (σ : St) (H : Hp) (o i v : V) (ov iv u : Value) (Q : Hp → Prop), Inv X pins σ H s → RelV o ov → RelV i iv → RelV v u → t o i v H Q →
    wpAny (model X.prog X.w) X.A (setItem ov iv u) (fun _ s' => ∃ H', Inv X pins σ H' s' ∧ Q H') X.xe s
/-- a op= b, by values -/
abbrev TIp := V → V → Hp → VK → Prop
def PIp (X : Cx) (op : Operator) (t : TIp) : Prop :=
  ∀ (pins : List (Addr × Obj)) (s : Shared) (σ : St) (H : Hp) (x y : V) (v u : Value) (Q : VK), Inv X pins σ H s → RelV x v → RelV y u → t x y H Q →
    wpAny (model X.prog X.w) X.A (inplaceOp op v u) (EP X pins σ Q) X.xe s
section
variable {X : Cx} {pos : Pos}
def gName (i : Nat) : TG := fun v σ H Q => Q (σ.set i (some v)) H
theorem pg_name {i : Nat} {x : Str} (hN : X.N.Nodup) (hi : X.N[i]? = some x) (hx : Loc X.env.scope x) (hf : X.fn x = true ∨ X.env.scope.names.lookup x = some .local := by first | exact .inl rfl | exact .inr rfl | assumption) : PG X (.Name x pos) (gName i) := by
  intro pins s σ H v u Q I r h
  exact wpAny_assign_Name (store_ok I hN hi hx r (fun s' I' => ⟨_, H, I', h⟩) hf)
def gNil : TGs := fun vs σ H Q => vs = [] ∧ Q σ H
def gCons (t : TG) (u : TGs) : TGs := fun vs σ H Q => ∃ v r, vs = v :: r ∧ t v σ H fun σ' H' => u r σ' H' Q
theorem pgs_nil : PGs X [] gNil := by
  intro pins s σ H vs us Q I r h
  obtain ⟨e, h⟩ := h
  subst e
  cases r
  exact assignInOrder_nil ⟨σ, H, I, h⟩
theorem pgs_cons {e : Expr} {es : List Expr} {t : TG} {u : TGs} (h1 : PG X e t) (h2 : PGs X es u)
    (hs : (assignEach (e :: es) X.env).map (·.2) = assign e X.env :: (assignEach es X.env).map (·.2) := by rfl) : PGs X (e :: es) (gCons t u) := by
  intro pins s σ H vs us Q I r h
  obtain ⟨v, vr, e1, h⟩ := h
  subst e1
  cases r with
  | cons r rr =>
    rw [hs]
    refine assignInOrder_cons (thn (h1 pins s σ H _ _ _ I r h) fun _ s1 ⟨σ1, H1, I1, q1⟩ => ?_)
    exact h2 pins s1 σ1 H1 _ _ Q I1 rr q1
/-- (a, b, ..) = a tuple of that length -/
def gTup (K : PySem.W.Frag) (n : Nat) (t : TGs) : TG := fun v σ H Q => ∃ a xs, v = .ref a ∧ SqT K H a xs ∧ xs.length = n ∧ t xs σ H Q
theorem pg_tup {es : List Expr} {k : Nat} {t : TGs} {n : Nat} (hc : X.calm = true) (h : PGs X es t)
    (hn : (assignEach es X.env).length = n := by rfl) (hst : (assignEach es X.env).findIdx? (·.1) = none := by rfl) : PG X (.Tuple es k pos) (gTup X.K n t) := by
  intro pins s σ H v u Q I r hw
  obtain ⟨a, xs, e1, hq, hl, hw⟩ := hw
  subst e1
  cases r
  obtain ⟨its, rv, ht, hz⟩ := I.tuple hq
  refine assign_Tuple_tuple (I.ok.hd hc) ht (by simp [hn, ← hl, rv.length]) hst fun h' hx => ?_
  have I1 : Inv X pins σ H { s with heap := h' } := I.kept (t' := s.toks) fun b o e => hx b o (Nat.ne_of_lt (Heap.lt_size e)) e
  exact h pins _ σ H xs _ Q I1 (by simpa using rv) hw
/-- o[i] = .. -/
def gSub (to ti : TE) (t : TSet) : TG := fun v σ H Q => to σ H fun o H1 => ti σ H1 fun i H2 => t o i v H2 fun H3 => Q σ H3
theorem pg_sub {o i : Expr} {to ti : TE} {t : TSet} (ho : PE X o to) (hi : PE X i ti) (hs : PSet X t)
    (ha : ∀ v, assign (.Subscript o i pos) X.env v = (do
      let ov ← holding [v] (eval o X.env)
      let iv ← holding [v, ov] (eval i X.env)
      standAt pos
      holding [v, ov, iv] (setItem ov iv v)
      release [v, ov, iv] []) := by intro _; rfl) : PG X (.Subscript o i pos) (gSub to ti t) := by
  intro pins s σ H v u Q I r h
  rw [ha]
  refine wpAny_bind (wpAny_holding (thn (ho pins s σ H _ I h) fun ov s1 ⟨x, H1, I1, r1, q1⟩ => ?_))
  refine wpAny_bind (wpAny_holding (thn (hi pins s1 σ H1 _ I1 q1) fun iv s2 ⟨y, H2, I2, r2, q2⟩ => ?_))
  refine wpAny_bind (wpAny_standAt (wpAny_bind (wpAny_holding (thn (hs pins s2 σ H2 x y v ov iv u _ I2 r1 r2 r q2) fun _ s3 ⟨H3, I3, q3⟩ => ?_))))
  exact wpAny_release ⟨σ, H3, I3, q3⟩
/-- target = value -/
def tAsg (te : TE) (g : TG) : TS := fun D σ H => te σ H fun x H1 => g x σ H1 D.nx
theorem ps_asg {tg e : Expr} {te : TE} {g : TG} (he : PE X e te) (hg : PG X tg g) (hs : swapsWithSole [tg] e pos.line X.env = pure false := by rfl) (hw : swappedStores [tg] e X.env = pure none := by rfl)
    (h1 : (assignEach [tg] X.env).map (·.2) = [assign tg X.env] := by rfl) : PS X (.Assign [tg] e pos) (tAsg te g) := by
  intro pins s σ H D I h
  refine wpAny_Assign_stores (thn (he pins s σ H _ I h) fun v s1 ⟨x, H1, I1, r1, q1⟩ => ?_) hs hw
  rw [h1]
  exact thn (hg pins s1 σ H1 x v _ I1 r1 q1) fun _ s2 q => q
/-- name = value -/
theorem ps_set {i : Nat} {x : Str} {e : Expr} {te : TE} {pos' : Pos} (hN : X.N.Nodup) (hi : X.N[i]? = some x) (hx : Loc X.env.scope x) (he : PE X e te) (hs : swapsWith e (some (.Name x pos')) pos.line X.env = pure false := by rfl) (hf : X.fn x = true ∨ X.env.scope.names.lookup x = some .local := by first | exact .inl rfl | exact .inr rfl | assumption) :
    PS X (.Assign [.Name x pos'] e pos) (tAsg te (gName i)) := by
  intro pins s σ H D I h
  refine wpAny_Assign_Name (thn (he pins s σ H _ I h) fun v s1 ⟨y, H1, I1, r1, q1⟩ => ?_) hs
  exact store_ok I1 hN hi hx r1 (fun s2 I2 => ⟨_, H1, I2, q1⟩) hf
/-- a, b = x, y with plain local names: stored from the right; the pair itself is not tracked (the opening rows as in PyProof/Rows/TupAssign.lean:23) -/
def tPar (i j : Nat) (ta : TA) : TS := fun D σ H => ta σ H fun vs H1 => ∃ v w, vs = [v, w] ∧ D.nx ((σ.set i (some v)).set j (some w)) H1
/-- name op= e -/
def tAug (i : Nat) (te : TE) (ti : TIp) : TS := fun D σ H => ∃ x, σ[i]? = some (some x) ∧ te σ H fun y H1 => ti x y H1 fun z H2 => D.nx (σ.set i (some z)) H2
theorem ps_aug {i : Nat} {x : Str} {e : Expr} {te : TE} {op : Operator} {ti : TIp} {pos' : Pos} (hN : X.N.Nodup) (hi : X.N[i]? = some x) (hx : Loc X.env.scope x) (he : PE X e te) (ho : PIp X op ti) (hf : X.fn x = true ∨ X.env.scope.names.lookup x = some .local := by first | exact .inl rfl | exact .inr rfl | assumption) :
    PS X (.AugAssign (.Name x pos') op e pos) (tAug i te ti) := by
  intro pins s σ H D I h
  obtain ⟨v, e1, h⟩ := h
  obtain ⟨m, hn, hl⟩ := I.loc
  have vis : Vis X.env.scope x := by rcases hx with k | k; exact .inl k; exact .inr (.inl k)
  obtain ⟨u, r, l⟩ := hl i x v hi e1 vis
  refine wpAny_AugAssign_Name ?_
  have go : wpAny (model X.prog X.w) X.A (eval e X.env) (fun w s₂ => wpAny (model X.prog X.w) X.A (inplaceOp op u w) (fun r s₃ => wpAny (model X.prog X.w) X.A (storeName X.env x r) (fun _ => SP X pins D .next) X.xe s₃) X.xe s₂) X.xe s := by
    refine thn (he pins s σ H _ I h) fun w s1 ⟨y, H1, I1, r1, q1⟩ => ?_
    refine thn (ho pins s1 σ H1 v y u w _ I1 r r1 q1) fun z s2 ⟨zv, H2, I2, r2, q2⟩ => ?_
    exact store_ok I2 hN hi hx r2 (fun s3 I3 => ⟨_, H2, I3, q2⟩) hf
  rcases l with ⟨hk, hm⟩ | ⟨hk, c, hc, hcell⟩
  · exact wpAny_loadName_local I.ok.kind hk hn hm go
  · rcases hk with hk | hk
    · exact wpAny_loadName_cell I.ok.kind hk hc hcell go
    · rcases hx with k | k
      · have : X.env.scope.names.lookup x = some .free := hk
        rw [k] at this; cases this
      · have : X.env.scope.names.lookup x = some .free := hk
        rw [k] at this; cases this
/-- o[i] op= e -/
def tAugS (to ti te : TE) (tget : V → V → Hp → VK → Prop) (tip : TIp) (tset : TSet) : TS := fun D σ H => to σ H fun o H1 => ti σ H1 fun i H2 => tget o i H2 fun x H3 => te σ H3 fun y H4 => tip x y H4 fun z H5 => tset o i z H5 fun H6 => D.nx σ H6
/-- o[i], by values -/
def PGet (X : Cx) (t : V → V → Hp → VK → Prop) : Prop :=
  ∀ (pins : List (Addr × Obj)) (s : Shared) (σ : St) (H : Hp) (o i : V) (ov iv : Value) (Q : VK), Inv X pins σ H s → RelV o ov → RelV i iv → t o i H Q →
    wpAny (model X.prog X.w) X.A (getItem ov iv) (EP X pins σ Q) X.xe s
/-- ints -/
def ipI (f : Int → Int → Int) : TIp := fun x y H Q => ∃ i j, x = .int i ∧ y = .int j ∧ Q (.int (f i j)) H
theorem ip_add : PIp X .Add (ipI fun i j => i + j) := by
  intro pins s σ H x y v u Q I r1 r2 h
  obtain ⟨i, j, e1, e2, q⟩ := h
  subst e1; subst e2
  obtain ⟨t, rfl⟩ := r1
  obtain ⟨t', rfl⟩ := r2
  exact iadd_int ⟨.int _, H, I.tok _, ⟨_, rfl⟩, q⟩
end

/-! ### while -/
section
variable {X : Cx} {pos : Pos}
/-- the invariant W with its measure -/
def tWhile (c : TT) (tb : TS) : TS := fun D σ H => ∃ W : Nat → St → Hp → Prop, (∃ m, W m σ H) ∧ ∀ m σ H, W m σ H →
  c σ H fun b H1 => if b = true then ∃ N : St → Hp → Prop, (∀ σ' H', N σ' H' → ∃ m', m' < m ∧ W m' σ' H') ∧ tb { D with nx := N, ct := N, bk := D.nx } σ H1 else D.nx σ H1
theorem ps_while {c : Expr} {body : List Stmt} {tc : TT} {tb : TS} (hp : PassesOwn (model X.prog X.w) X.A X.env X.xe) (hc : PT X c tc) (hb : PSs X body tb) : PS X (.While c body [] pos) (tWhile tc tb) := by
  intro pins s σ H D I h
  obtain ⟨W, ⟨m0, w0⟩, turn⟩ := h
  refine wpAny_While (codeAny_whileLoop (fun n s' => ∃ σ' H', Inv X pins σ' H' s' ∧ W n σ' H') ?_ m0 ⟨σ, H, I, w0⟩)
  rintro n s1 ⟨σ1, H1, I1, w1⟩
  refine wpAny_passesOwn hp (thn (hc pins s1 σ1 H1 _ I1 (turn n σ1 H1 w1)) fun b s2 ⟨H2, I2, q2⟩ => ?_)
  cases b with
  | true =>
    obtain ⟨N, hN, q2⟩ := q2
    rw [if_pos rfl]
    refine wpAny_passesOwn hp (thn (hb pins s2 σ1 H2 _ I2 q2) fun f s3 q3 => ?_)
    cases f with
    | next =>
      obtain ⟨σ3, H3, I3, n3⟩ := q3
      obtain ⟨m', hm, w3⟩ := hN σ3 H3 n3
      exact ⟨m', hm, σ3, H3, I3, w3⟩
    | cont =>
      obtain ⟨σ3, H3, I3, n3⟩ := q3
      obtain ⟨m', hm, w3⟩ := hN σ3 H3 n3
      exact ⟨m', hm, σ3, H3, I3, w3⟩
    | brk => exact q3
    | ret v => exact q3
  | false =>
    rw [if_neg Bool.false_ne_true]
    exact wpAny_execs_nil ⟨σ1, H2, I2, q2⟩
end

/-! ### what a loop or a comprehension walks -/
/-- at turn i: it yields x (the heap may grow), or it stops -/
structure It where
  go : Nat → Hp → Prop
  yld : Nat → Hp → V → Hp → Prop
  stop : Nat → Hp → Prop
/-- the iterator's own objects may turn: they are not the frame's, not pinned, younger than the entry (or a comprehension's own) -/
def FpOk (X : Cx) (pins : List (Addr × Obj)) (H : Hp) (b : Addr) : Prop :=
  H b = none ∧ b ≠ X.env.locals ∧ b ∉ X.fs ∧ (b ∈ X.ex ∨ X.s₀.heap.objs.size ≤ b) ∧ (∀ x c, X.env.cells.lookup x = some c → c ≠ b) ∧ ∀ p ∈ X.pn ++ pins, p.1 ≠ b
theorem Inv.fpOk {X : Cx} {pins : List (Addr × Obj)} {σ : St} {H H' : Hp} {s : Shared} {b : Addr} (I : Inv X pins σ H s) (hb : s.heap.objs.size ≤ b) (hn : H' b = none) : FpOk X pins H' b := by
  refine ⟨hn, Nat.ne_of_gt (Nat.lt_of_lt_of_le I.lt hb), I.nofs hb, .inr (Nat.le_trans I.sz hb), fun x c e z => ?_, fun p hp z => ?_⟩
  · obtain ⟨v, q⟩ := I.cell x c e
    exact absurd (Nat.lt_of_lt_of_le q.lt (by rw [z]; exact hb)) (Nat.lt_irrefl _)
  · exact absurd (Nat.lt_of_lt_of_le (Heap.lt_size (I.pin p hp).1) (by rw [z]; exact hb)) (Nat.lt_irrefl _)
structure Turn (P : Program) (w : World) (K : PySem.W.Frag) (tg : Expr) (J : It) (fp : List Addr) (it : Addr) (tn : Nat → Heap → Prop) : Prop where
  mem : it ∈ fp
  obj : ∀ i h, tn i h → ∀ b ∈ fp, ∃ o, h.get? b = some o ∧ ∀ v, o.data ≠ .cell v
  keep : ∀ i h h', tn i h → (∀ b ∈ fp, ∀ o, h.get? b = some o → h'.get? b = some o) → tn i h'
  item : ∀ (X : Cx), X.prog = P → X.w = w → X.K = K → X.calm = true → ∀ (i : Nat) (pins : List (Addr × Obj)) (s : Shared) (σ : St) (H : Hp) (E : Value → Shared → Prop), Inv X pins σ H s → (∀ b ∈ fp, FpOk X pins H b) → tn i s.heap → J.go i H →
    wpAny (model P w) X.A (pyNext (.ref it)) (fun r s1 => ∃ u, r = some u ∧
      wpAny (model P w) X.A (letOwnedTupleGo tg (.ref it) u) (fun _ s2 => ∃ x H', Inv X pins σ H' s2 ∧ RelV x u ∧ J.yld i H x H' ∧ tn (i + 1) s2.heap ∧ ∀ b ∈ fp, H' b = none) E s1) E s
  done : ∀ (X : Cx), X.prog = P → X.w = w → X.K = K → X.calm = true → ∀ (i : Nat) (pins : List (Addr × Obj)) (s : Shared) (σ : St) (H : Hp) (E : Value → Shared → Prop), Inv X pins σ H s → (∀ b ∈ fp, FpOk X pins H b) → tn i s.heap → J.stop i H →
    wpAny (model P w) X.A (pyNext (.ref it)) (fun r s1 => r = none ∧ Inv X pins σ H s1) E s
  self : ∀ (A : Around) (i : Nat) (s : Shared) (Q : Value → Shared → Prop) (E : Value → Shared → Prop), tn i s.heap → Q (.ref it) s → wpAny (model P w) A (pyIter (.ref it)) Q E s
abbrev TI := St → Hp → (It → Hp → Prop) → Prop
/-- an iterator has come -/
def PIE (X : Cx) (pins : List (Addr × Obj)) (σ : St) (tg : Expr) (R : It → Hp → Prop) (itv : Value) (s2 : Shared) : Prop :=
  ∃ (it : Addr) (fp : List Addr) (tn : Nat → Heap → Prop) (J : It) (H' : Hp), itv = .ref it ∧ Inv X pins σ H' s2 ∧ Turn X.prog X.w X.K tg J fp it tn ∧ tn 0 s2.heap ∧ (∀ b ∈ fp, FpOk X pins H' b) ∧ R J H'
def PI (X : Cx) (tg iter : Expr) (wi : TI) : Prop :=
  ∀ (pins : List (Addr × Obj)) (s : Shared) (σ : St) (H : Hp) (R : It → Hp → Prop), Inv X pins σ H s → wi σ H R →
    wpAny (model X.prog X.w) X.A (eval iter X.env) (fun v s1 => wpAny (model X.prog X.w) X.A (pyIter v) (PIE X pins σ tg R) X.xe s1) X.xe s

/-- the step ahead of the store is nothing for an iterator that keeps no tuple -/
theorem go_of {M : Model} {A : Around} {E : Value → Shared → Prop} {s : Shared} {tg : Expr} {it : Addr} {u : Value} {o : Obj} {n : String} {vs : Array Value} {Q : Unit → Shared → Prop} (ho : s.heap.get? it = some o) (hc : o.cls = .type n) (hd : o.data = .fields vs)
    (hn : ["enumerate", "zip", "dict_itemiterator", "dict_reverseitemiterator", "odict_iterator", "itertools.zip_longest", "itertools.pairwise"].contains n = false) (hQ : Q () s) : wpAny M A (letOwnedTupleGo tg (.ref it) u) Q E s := by
  unfold letOwnedTupleGo
  cases tg <;> first
    | exact wpAny_pure hQ
    | (cases u <;> first
        | exact wpAny_pure hQ
        | (refine wpAny_bind (wpAny_load ho ?_)
           rw [hc, hd]
           show wpAny M A (if (["enumerate", "zip", "dict_itemiterator", "dict_reverseitemiterator", "odict_iterator", "itertools.zip_longest", "itertools.pairwise"].contains n && vs[0]? == some (rawInt _)) = true then _ else _) Q E s
           rw [if_neg (by intro h; rw [hn, Bool.false_and] at h; cases h)]
           exact wpAny_pure hQ))

/-- the list at a, as it stands at each turn (a loop may append to it) -/
def Itl (K : PySem.W.Frag) (a : Addr) : It :=
  ⟨fun i H => ∃ xs x, SqL K H a xs ∧ xs[i]? = some x, fun i H x H' => H' = H ∧ ∀ xs, SqL K H a xs → xs[i]? = some x, fun i H => ∃ xs, SqL K H a xs ∧ xs.length ≤ i⟩
def Itt (K : PySem.W.Frag) (a : Addr) : It :=
  ⟨fun i H => ∃ xs x, SqT K H a xs ∧ xs[i]? = some x, fun i H x H' => H' = H ∧ ∀ xs, SqT K H a xs → xs[i]? = some x, fun i H => ∃ xs, SqT K H a xs ∧ xs.length ≤ i⟩
/-- lo, lo + 1, .. (n of them) -/
def Itr (lo : Int) (n : Nat) : It := ⟨fun i _ => i < n, fun i H x H' => H' = H ∧ x = .int (lo + i), fun i _ => n ≤ i⟩
theorem turn_list {P : Program} {w : World} {K : PySem.W.Frag} {tg : Expr} (a it : Addr) : Turn P w K tg (Itl K a) [it] it (fun i h => h.IsListIter it a i) where
  mem := by simp
  obj := fun i h st b hb => by
    have e : b = it := by simpa using hb
    subst e
    obtain ⟨o, e, c, d⟩ := st
    exact ⟨o, e, fun v z => by rw [d] at z; cases z⟩
  keep := fun i h h' st k => st.at fun o e => k it (by simp) o e
  item := by
    intro X hP hw hK hc i pins s σ H E I hf st hg
    subst hP hw hK
    obtain ⟨xs, x, hq, hx⟩ := hg
    obtain ⟨its, rv, p, hz⟩ := I.list hq
    obtain ⟨u, hu, ru⟩ := rv.get hx
    obtain ⟨f0, f1, f2, f3, f4, f5⟩ := hf it (by simp)
    refine wpAny_pyNext_list_item st p.isList (x := u) (by simpa using hu) fun h' st' sb => ?_
    have I1 : Inv X pins σ H { s with heap := h' } := I.turned (t' := s.toks) (fun b o hb e => (sb.2 b hb).trans e) f0 f1 f3 f4 f5
    obtain ⟨o, e, c, d⟩ := id st'
    exact ⟨u, rfl, go_of (s := { s with heap := h' }) e c d (by decide) ⟨x, H, I1, ru, ⟨rfl, fun ys hy => by rw [I.list_inj hy hq]; exact hx⟩, st', fun b hb => (hf b hb).1⟩⟩
  done := by
    intro X hP hw hK hc i pins s σ H E I hf st hg
    subst hP hw hK
    obtain ⟨xs, hq, hx⟩ := hg
    obtain ⟨its, rv, p, hz⟩ := I.list hq
    obtain ⟨f0, f1, f2, f3, f4, f5⟩ := hf it (by simp)
    have hl := rv.length
    exact wpAny_pyNext_list_end (I.ok.hd hc) st p.isList (by simp; omega) fun h' eb => ⟨rfl, I.turned (t' := s.toks) (fun b o hb e => eb b o hb e) f0 f1 f3 f4 f5⟩
  self := fun _ _ _ _ _ st h => wpAny_pyIter_listiter st h
theorem turn_tuple {P : Program} {w : World} {K : PySem.W.Frag} {tg : Expr} (a it : Addr) : Turn P w K tg (Itt K a) [it] it (fun i h => h.IsTupleIter it a i) where
  mem := by simp
  obj := fun i h st b hb => by
    have e : b = it := by simpa using hb
    subst e
    obtain ⟨o, e, c, d⟩ := st
    exact ⟨o, e, fun v z => by rw [d] at z; cases z⟩
  keep := fun i h h' st k => st.at fun o e => k it (by simp) o e
  item := by
    intro X hP hw hK hc i pins s σ H E I hf st hg
    subst hP hw hK
    obtain ⟨xs, x, hq, hx⟩ := hg
    obtain ⟨its, rv, p, hz⟩ := I.tuple hq
    obtain ⟨u, hu, ru⟩ := rv.get hx
    obtain ⟨f0, f1, f2, f3, f4, f5⟩ := hf it (by simp)
    refine wpAny_pyNext_tuple_item st (show s.heap.IsTuple a its.toArray from p) (x := u) (by simpa using hu) fun h' st' sb => ?_
    have I1 : Inv X pins σ H { s with heap := h' } := I.turned (t' := s.toks) (fun b o hb e => (sb.2 b hb).trans e) f0 f1 f3 f4 f5
    obtain ⟨o, e, c, d⟩ := id st'
    exact ⟨u, rfl, go_of (s := { s with heap := h' }) e c d (by decide) ⟨x, H, I1, ru, ⟨rfl, fun ys hy => by rw [I.tuple_inj hy hq]; exact hx⟩, st', fun b hb => (hf b hb).1⟩⟩
  done := by
    intro X hP hw hK hc i pins s σ H E I hf st hg
    subst hP hw hK
    obtain ⟨xs, hq, hx⟩ := hg
    obtain ⟨its, rv, p, hz⟩ := I.tuple hq
    obtain ⟨f0, f1, f2, f3, f4, f5⟩ := hf it (by simp)
    have hl := rv.length
    exact wpAny_pyNext_tuple_end (I.ok.hd hc) st (show s.heap.IsTuple a its.toArray from p) (by simp; omega) fun h' eb => ⟨rfl, I.turned (t' := s.toks) (fun b o hb e => eb b o hb e) f0 f1 f3 f4 f5⟩
  self := fun _ _ _ _ _ st h => wpAny_pyIter_tupleiter st h
theorem turn_range {P : Program} {w : World} {K : PySem.W.Frag} {tg : Expr} (it : Addr) (lo : Int) (n : Nat) : Turn P w K tg (Itr lo n) [it] it (fun i h => IsRangeIter h it (lo + (i : Nat) * 1) ((n : Int) - (i : Nat)) 1) where
  mem := by simp
  obj := fun i h st b hb => by
    have e : b = it := by simpa using hb
    subst e
    exact ⟨_, st, fun v z => by
      have z' : Data.fields _ = Data.cell v := z
      cases z'⟩
  keep := fun i h h' st k => k it (by simp) _ st
  item := by
    intro X hP hw hK hc i pins s σ H E I hf st hg
    subst hP hw hK
    obtain ⟨f0, f1, f2, f3, f4, f5⟩ := hf it (by simp)
    have W := Walks.range (prog := X.prog) (w := X.w) (I.ok.hd hc) it lo 1 n
    refine W.item i s _ _ hg st fun v h' tk hv st' kk => ?_
    obtain ⟨t, rfl⟩ := hv
    have I1 : Inv X pins σ H { s with heap := h', toks := tk } := I.turned (fun b o hb e => kk b o (by simpa using hb) e) f0 f1 f3 f4 f5
    refine ⟨_, rfl, go_of (s := { s with heap := h', toks := tk }) (n := "range_iterator") st' rfl rfl (by decide) ⟨.int (lo + i), H, I1, ⟨t, ?_⟩, ⟨rfl, rfl⟩, st', fun b hb => (hf b hb).1⟩⟩
    rw [Int.mul_one]
  done := by
    intro X hP hw hK hc i pins s σ H E I hf st hg
    subst hP hw hK
    obtain ⟨f0, f1, f2, f3, f4, f5⟩ := hf it (by simp)
    exact wpAny_pyNext_range_end (I.ok.hd hc) st (by have : n ≤ i := hg; omega) fun h' eb => ⟨rfl, I.turned (t' := s.toks) (fun b o hb e => eb b o hb e) f0 f1 f3 f4 f5⟩
  self := fun _ _ _ _ _ st h => wpAny_pyIter_rangeiter st h
end L2

namespace L2
open PySem PySem.Spec PyProof.Rows
section
variable {X : Cx} {tg : Expr}
def iList (K : PySem.W.Frag) (tl : TE) : TI := fun σ H R => tl σ H fun x H1 => ∃ a, x = .ref a ∧ (∃ xs, SqL K H1 a xs) ∧ R (Itl K a) H1
def iTup (K : PySem.W.Frag) (tl : TE) : TI := fun σ H R => tl σ H fun x H1 => ∃ a, x = .ref a ∧ (∃ xs, SqT K H1 a xs) ∧ R (Itt K a) H1
theorem pi_list {l : Expr} {tl : TE} (hl : PE X l tl) : PI X tg l (iList X.K tl) := by
  intro pins s σ H R I h
  refine thn (hl pins s σ H _ I h) fun v s1 ⟨x, H1, I1, r1, q1⟩ => ?_
  obtain ⟨a, e, ⟨xs, hq⟩, q⟩ := q1
  subst e
  cases r1
  obtain ⟨its, rv, p, hz⟩ := I1.list hq
  refine wpAny_pyIter_list p.isList ?_
  refine ⟨s1.heap.objs.size, [s1.heap.objs.size], _, _, H1, rfl, I1.kept (t' := s1.toks) fun b o e => Heap.get?_push_of_some _ e, turn_list a _, ⟨_, Heap.get?_push_size _ rfl, rfl, rfl⟩, fun b hb => ?_, q⟩
  have e : b = s1.heap.objs.size := by simpa using hb
  subst e
  exact I1.fpOk (Nat.le_refl _) (I1.hok.fresh (Nat.le_refl _))
theorem pi_tup {l : Expr} {tl : TE} (hl : PE X l tl) : PI X tg l (iTup X.K tl) := by
  intro pins s σ H R I h
  refine thn (hl pins s σ H _ I h) fun v s1 ⟨x, H1, I1, r1, q1⟩ => ?_
  obtain ⟨a, e, ⟨xs, hq⟩, q⟩ := q1
  subst e
  cases r1
  obtain ⟨its, rv, p, hz⟩ := I1.tuple hq
  refine wpAny_pyIter_tuple (show s1.heap.IsTuple a its.toArray from p) ?_
  refine ⟨s1.heap.objs.size, [s1.heap.objs.size], _, _, H1, rfl, I1.kept (t' := s1.toks) fun b o e => Heap.get?_push_of_some _ e, turn_tuple a _, ⟨_, Heap.get?_push_size _ rfl, rfl, rfl⟩, fun b hb => ?_, q⟩
  have e : b = s1.heap.objs.size := by simpa using hb
  subst e
  exact I1.fpOk (Nat.le_refl _) (I1.hok.fresh (Nat.le_refl _))
/-- a range object just made, walked -/
theorem range_it {pins : List (Addr × Obj)} {σ : St} {H : Hp} {s : Shared} {R : It → Hp → Prop} {E : Value → Shared → Prop} {lo hi : Int} {t u v : Tok} {tk : Nat} (I : Inv X pins σ H s) (h1 : -(2 ^ 62) ≤ lo) (h2 : lo < 2 ^ 62) (h3 : -(2 ^ 62) ≤ hi) (h4 : hi < 2 ^ 62)
    (q : R (Itr lo (hi - lo).toNat) H) : wpAny (model X.prog X.w) X.A (pyIter (.ref s.heap.objs.size)) (PIE X pins σ tg R) E { s with heap := s.heap.push { cls := .type "range", data := .fields #[.int lo t, .int hi u, .int 1 v] }, toks := tk } := by
  refine wpAny_pyIter_range (IsRange.new ..) (small_one h1 h2 h3 h4) ?_
  have I1 : Inv X pins σ H { s with heap := s.heap.push { cls := .type "range", data := .fields #[.int lo t, .int hi u, .int 1 v] }, toks := tk } := I.kept fun b o e => Heap.get?_push_of_some _ e
  refine ⟨(s.heap.push { cls := .type "range", data := .fields #[.int lo t, .int hi u, .int 1 v] }).objs.size, [(s.heap.push { cls := .type "range", data := .fields #[.int lo t, .int hi u, .int 1 v] }).objs.size], _, _, H, rfl,
    I1.kept (t' := tk) fun b o e => Heap.get?_push_of_some _ e, turn_range _ lo (hi - lo).toNat, ?_, fun b hb => ?_, q⟩
  · have e1 : lo + ((0 : Nat) : Int) * 1 = lo := by simp
    have e2 : (((hi - lo).toNat : Nat) : Int) - ((0 : Nat) : Int) = Builtin.Range.rangeSize lo hi 1 := by rw [rangeSize_one]; split <;> omega
    show IsRangeIter _ _ (lo + ((0 : Nat) : Int) * 1) ((((hi - lo).toNat : Nat) : Int) - ((0 : Nat) : Int)) 1
    rw [e1, e2]
    exact Heap.get?_push_size _ rfl
  · have e : b = (s.heap.push { cls := .type "range", data := .fields #[.int lo t, .int hi u, .int 1 v] }).objs.size := by simpa using hb
    subst e
    exact I1.fpOk (Nat.le_refl _) (I1.hok.fresh (Nat.le_refl _))
def iRng1 (ta : TA) : TI := fun σ H R => ta σ H fun vs H1 => ∃ j : Int, vs = [.int j] ∧ -(2 ^ 62) ≤ j ∧ j < 2 ^ 62 ∧ R (Itr 0 j.toNat) H1
def iRng2 (ta : TA) : TI := fun σ H R => ta σ H fun vs H1 => ∃ i j : Int, vs = [.int i, .int j] ∧ (-(2 ^ 62) ≤ i ∧ i < 2 ^ 62 ∧ -(2 ^ 62) ≤ j ∧ j < 2 ^ 62) ∧ R (Itr i (j - i).toNat) H1
theorem pi_range1 {a : Expr} {ta : TA} {p pos : Pos} (hg : Gl X "range") (hm : X.mg "range" = none) (ha : PA X [a] ta) (hs : starEach [a] X.env = [(false, eval a X.env)] := by rfl) : PI X tg (.Call (.Name "range" p) [a] [] pos) (iRng1 ta) := by
  intro pins s σ H R I h
  refine Call_ (ld_blt I hg hm boot_range (PyProof.Rows.callWith_type1 (thn (ha pos pins s σ H _ I h) fun us s1 ⟨vs, H1, I1, r1, q1⟩ => ?_) hs rfl))
  obtain ⟨j, e, q1, q2, q⟩ := q1
  subst e
  cases r1 with
  | cons r rr =>
    cases rr
    obtain ⟨t, rfl⟩ := r
    exact call_range_1 (range_it I1 (by omega) (by omega) q1 q2 (by simpa using q))
/-! ### for -/
/-- W: the invariant by the turn and a measure; N: what the body is to reach -/
def tFor (wi : TI) (g : TG) (tb : TS) : TS := fun D σ H => wi σ H fun J H1 => ∃ W : Nat → Nat → St → Hp → Prop, (∃ m, W 0 m σ H1) ∧ ∀ i m σ H, W i m σ H →
  (J.stop i H ∧ D.nx σ H) ∨ (J.go i H ∧ ∃ N : St → Hp → Prop, (∀ σ' H', N σ' H' → ∃ m', m' < m ∧ W (i + 1) m' σ' H') ∧ ∀ x H', J.yld i H x H' → g x σ H' fun σ2 H2 => tb { D with nx := N, ct := N, bk := D.nx } σ2 H2)
/-- the records at fp as they stand -/
def pinsAt (fp : List Addr) (h : Heap) : List (Addr × Obj) := fp.filterMap fun b => (h.get? b).map fun o => (b, o)
theorem mem_pinsAt {fp : List Addr} {h : Heap} {b : Addr} {o : Obj} (hb : b ∈ fp) (e : h.get? b = some o) : (b, o) ∈ pinsAt fp h := List.mem_filterMap.mpr ⟨b, hb, by rw [e]; rfl⟩
theorem of_pinsAt {fp : List Addr} {h : Heap} {p : Addr × Obj} (hp : p ∈ pinsAt fp h) : p.1 ∈ fp ∧ h.get? p.1 = some p.2 := by
  obtain ⟨b, hb, e⟩ := List.mem_filterMap.mp hp
  cases q : h.get? b with
  | none => rw [q] at e; cases e
  | some o =>
    rw [q] at e
    have e' : (b, o) = p := Option.some.inj e
    subst e'
    exact ⟨hb, q⟩
theorem Inv.pinned {pins : List (Addr × Obj)} {σ : St} {H : Hp} {s : Shared} {fp : List Addr} (I : Inv X pins σ H s) (hf : ∀ b ∈ fp, FpOk X pins H b) (ho : ∀ b ∈ fp, ∃ o, s.heap.get? b = some o ∧ ∀ v, o.data ≠ .cell v) : Inv X (pins ++ pinsAt fp s.heap) σ H s :=
  I.pins_of fun p hp => (List.mem_append.mp hp).elim (fun z => I.pin p (List.mem_append_right _ z)) fun z => by
    obtain ⟨hb, e⟩ := of_pinsAt z
    obtain ⟨f0, f1, f2, _⟩ := hf p.1 hb
    obtain ⟨o, e', d⟩ := ho p.1 hb
    rw [e] at e'; cases e'
    exact ⟨e, f0, f1, f2, d⟩
theorem Inv.unpinned {pins pl : List (Addr × Obj)} {σ : St} {H : Hp} {s : Shared} (I : Inv X (pins ++ pl) σ H s) : Inv X pins σ H s := I.pins_of fun p hp => I.pin p (List.mem_append_right _ (List.mem_append_left _ hp))
theorem ps_for {iter : Expr} {body : List Stmt} {wi : TI} {g : TG} {tb : TS} {pos : Pos} (hp : PassesOwn (model X.prog X.w) X.A X.env X.xe) (hc : X.calm = true) (hi : PI X tg iter wi) (hg : PG X tg g) (hb : PSs X body tb)
    (hs : ∀ x, foldedSetIterable iter X.env x = pure x := by intro _; rfl) : PS X (.For tg iter body [] pos) (tFor wi g tb) := by
  intro pins s σ H D I h
  refine wpAny_For (thn (hi pins s σ H _ I h) fun v s1 h1 => thn h1 fun itv s2 h2 => ?_) hs
  obtain ⟨it, fp, tn, J, H2, e, I2, T, st2, f2, W, ⟨m0, w0⟩, turn⟩ := h2
  subst e
  -- what stays true of the iterator's objects through the loop
  have stat : ∀ {H' : Hp}, (∀ b ∈ fp, H' b = none) → ∀ b ∈ fp, FpOk X pins H' b := fun hn b hb => ⟨hn b hb, (f2 b hb).2⟩
  refine codeAny_forLoop_any (fun n s' => ∃ i σ' H', Inv X pins σ' H' s' ∧ tn i s'.heap ∧ (∀ b ∈ fp, H' b = none) ∧ W i n σ' H') ?_ m0 ⟨0, σ, H2, I2, st2, fun b hb => (f2 b hb).1, w0⟩
  rintro n s3 ⟨i, σ3, H3, I3, st3, fr3, w3⟩
  rcases turn i n σ3 H3 w3 with ⟨stop, qn⟩ | ⟨go, N, hN, step⟩
  · refine wpAny_passesOwn hp (thn (T.done X rfl rfl rfl hc i pins s3 σ3 H3 X.xe I3 (stat fr3) st3 stop) fun r s4 ⟨hr, I4⟩ => ?_)
    subst hr
    exact wpAny_execs_nil ⟨σ3, H3, I4, qn⟩
  · refine wpAny_passesOwn hp (thn (T.item X rfl rfl rfl hc i pins s3 σ3 H3 X.xe I3 (stat fr3) st3 go) fun r s4 ⟨u, hr, h4⟩ => ?_)
    subst hr
    refine wpAny_passesOwn hp (thn h4 fun _ s5 ⟨x, H5, I5, r5, y5, st5, fr5⟩ => ?_)
    have I5' := I5.pinned (stat fr5) (T.obj _ _ st5)
    refine wpAny_passesOwn hp (thn (hg _ s5 σ3 H5 x u _ I5' r5 (step x H5 y5)) fun _ s6 ⟨σ6, H6, I6, q6⟩ => ?_)
    refine wpAny_passesOwn hp (thn (hb _ s6 σ6 H6 _ I6 q6) fun f s7 q7 => ?_)
    have again : ∀ {σ7 : St} {H7 : Hp}, Inv X (pins ++ pinsAt fp s5.heap) σ7 H7 s7 → N σ7 H7 → ∃ m, m < n ∧ ∃ i σ' H', Inv X pins σ' H' s7 ∧ tn i s7.heap ∧ (∀ b ∈ fp, H' b = none) ∧ W i m σ' H' := fun {σ7 H7} I7 n7 => by
      obtain ⟨m', hm, w7⟩ := hN σ7 H7 n7
      refine ⟨m', hm, i + 1, σ7, H7, I7.unpinned, T.keep _ _ _ st5 fun b hb o e => (I7.pin (b, o) (List.mem_append_right _ (List.mem_append_right _ (mem_pinsAt hb e)))).1, fun b hb => ?_, w7⟩
      obtain ⟨o, e, d⟩ := T.obj _ _ st5 b hb
      exact (I7.pin (b, o) (List.mem_append_right _ (List.mem_append_right _ (mem_pinsAt hb e)))).2.1
    cases f with
    | next => obtain ⟨σ7, H7, I7, n7⟩ := q7; exact again I7 n7
    | cont => obtain ⟨σ7, H7, I7, n7⟩ := q7; exact again I7 n7
    | brk => obtain ⟨σ7, H7, I7, q7⟩ := q7; exact ⟨σ7, H7, I7.unpinned, q7⟩
    | ret v => obtain ⟨x7, σ7, H7, I7, r7, q7⟩ := q7; exact ⟨x7, σ7, H7, I7.unpinned, r7, q7⟩
end

/-! ### the forms one uses -/
/-- over a list that the body leaves as it is -/
theorem for_list {K : PySem.W.Frag} {a : Addr} {xs : List V} {g : TG} {tb : TS} {D : Ends} {σ : St} {H : Hp} (Pv : Nat → St → Hp → Prop) (h0 : Pv 0 σ H) (hl : ∀ i σ H, i ≤ xs.length → Pv i σ H → SqL K H a xs)
    (hs : ∀ i x σ H, xs[i]? = some x → Pv i σ H → g x σ H fun σ2 H2 => tb { D with nx := Pv (i + 1), ct := Pv (i + 1), bk := D.nx } σ2 H2) (hd : ∀ σ H, Pv xs.length σ H → D.nx σ H) :
    ∃ W : Nat → Nat → St → Hp → Prop, (∃ m, W 0 m σ H) ∧ ∀ i m σ H, W i m σ H →
      ((Itl K a).stop i H ∧ D.nx σ H) ∨ ((Itl K a).go i H ∧ ∃ N : St → Hp → Prop, (∀ σ' H', N σ' H' → ∃ m', m' < m ∧ W (i + 1) m' σ' H') ∧ ∀ x H', (Itl K a).yld i H x H' → g x σ H' fun σ2 H2 => tb { D with nx := N, ct := N, bk := D.nx } σ2 H2) := by
  refine ⟨fun i m σ H => m = xs.length - i ∧ i ≤ xs.length ∧ Pv i σ H, ⟨xs.length, by simp, Nat.zero_le _, h0⟩, ?_⟩
  rintro i m σ H ⟨rfl, hi, p⟩
  have q := hl i σ H hi p
  by_cases hlt : i < xs.length
  · refine .inr ⟨⟨xs, xs[i], q, by simp [hlt]⟩, Pv (i + 1), fun σ' H' p' => ⟨xs.length - (i + 1), by omega, rfl, hlt, p'⟩, fun x H' y => ?_⟩
    obtain ⟨e, y⟩ := y
    subst e
    exact hs i x σ _ (y xs q) p
  · have e : i = xs.length := by omega
    subst e
    exact .inl ⟨⟨xs, q, Nat.le_refl _⟩, hd σ H p⟩
theorem for_tup {K : PySem.W.Frag} {a : Addr} {xs : List V} {g : TG} {tb : TS} {D : Ends} {σ : St} {H : Hp} (Pv : Nat → St → Hp → Prop) (h0 : Pv 0 σ H) (hl : ∀ i σ H, i ≤ xs.length → Pv i σ H → SqT K H a xs)
    (hs : ∀ i x σ H, xs[i]? = some x → Pv i σ H → g x σ H fun σ2 H2 => tb { D with nx := Pv (i + 1), ct := Pv (i + 1), bk := D.nx } σ2 H2) (hd : ∀ σ H, Pv xs.length σ H → D.nx σ H) :
    ∃ W : Nat → Nat → St → Hp → Prop, (∃ m, W 0 m σ H) ∧ ∀ i m σ H, W i m σ H →
      ((Itt K a).stop i H ∧ D.nx σ H) ∨ ((Itt K a).go i H ∧ ∃ N : St → Hp → Prop, (∀ σ' H', N σ' H' → ∃ m', m' < m ∧ W (i + 1) m' σ' H') ∧ ∀ x H', (Itt K a).yld i H x H' → g x σ H' fun σ2 H2 => tb { D with nx := N, ct := N, bk := D.nx } σ2 H2) := by
  refine ⟨fun i m σ H => m = xs.length - i ∧ i ≤ xs.length ∧ Pv i σ H, ⟨xs.length, by simp, Nat.zero_le _, h0⟩, ?_⟩
  rintro i m σ H ⟨rfl, hi, p⟩
  have q := hl i σ H hi p
  by_cases hlt : i < xs.length
  · refine .inr ⟨⟨xs, xs[i], q, by simp [hlt]⟩, Pv (i + 1), fun σ' H' p' => ⟨xs.length - (i + 1), by omega, rfl, hlt, p'⟩, fun x H' y => ?_⟩
    obtain ⟨e, y⟩ := y
    subst e
    exact hs i x σ _ (y xs q) p
  · have e : i = xs.length := by omega
    subst e
    exact .inl ⟨⟨xs, q, Nat.le_refl _⟩, hd σ H p⟩
theorem for_range {lo : Int} {n : Nat} {g : TG} {tb : TS} {D : Ends} {σ : St} {H : Hp} (Pv : Nat → St → Hp → Prop) (h0 : Pv 0 σ H)
    (hs : ∀ i σ H, i < n → Pv i σ H → g (.int (lo + i)) σ H fun σ2 H2 => tb { D with nx := Pv (i + 1), ct := Pv (i + 1), bk := D.nx } σ2 H2) (hd : ∀ σ H, Pv n σ H → D.nx σ H) :
    ∃ W : Nat → Nat → St → Hp → Prop, (∃ m, W 0 m σ H) ∧ ∀ i m σ H, W i m σ H →
      ((Itr lo n).stop i H ∧ D.nx σ H) ∨ ((Itr lo n).go i H ∧ ∃ N : St → Hp → Prop, (∀ σ' H', N σ' H' → ∃ m', m' < m ∧ W (i + 1) m' σ' H') ∧ ∀ x H', (Itr lo n).yld i H x H' → g x σ H' fun σ2 H2 => tb { D with nx := N, ct := N, bk := D.nx } σ2 H2) := by
  refine ⟨fun i m σ H => m = n - i ∧ i ≤ n ∧ Pv i σ H, ⟨n, by simp, Nat.zero_le _, h0⟩, ?_⟩
  rintro i m σ H ⟨rfl, hi, p⟩
  by_cases hlt : i < n
  · refine .inr ⟨hlt, Pv (i + 1), fun σ' H' p' => ⟨n - (i + 1), by omega, rfl, hlt, p'⟩, fun x H' y => ?_⟩
    obtain ⟨e, y⟩ := y
    subst e y
    exact hs i σ _ hlt p
  · have e : i = n := by omega
    subst e
    exact .inl ⟨Nat.le_refl _, hd σ H p⟩
end L2

namespace L2
open PySem PySem.Spec PyProof.Rows

abbrev R2 := V → V → Hp → VK → Prop
/-- a two-place operation on values: f is binaryOp op, inplaceOp op or compareOp op -/
def OpR (X : Cx) (f : Value → Value → Sem Value) (r : R2) : Prop :=
  ∀ (pins : List (Addr × Obj)) (s : Shared) (σ : St) (H : Hp) (x y : V) (v u : Value) (Q : VK), Inv X pins σ H s → RelV x v → RelV y u → r x y H Q →
    wpAny (model X.prog X.w) X.A (f v u) (EP X pins σ Q) X.xe s
/-- a one-place operation -/
def UnR (X : Cx) (f : Value → Sem Value) (r : V → Hp → VK → Prop) : Prop :=
  ∀ (pins : List (Addr × Obj)) (s : Shared) (σ : St) (H : Hp) (x : V) (v : Value) (Q : VK), Inv X pins σ H s → RelV x v → r x H Q →
    wpAny (model X.prog X.w) X.A (f v) (EP X pins σ Q) X.xe s
/-- a call of a value that is known (a builtin, a type) with values -/
def CallR (X : Cx) (f : Value) (r : List V → Hp → VK → Prop) : Prop :=
  ∀ (pins : List (Addr × Obj)) (s : Shared) (σ : St) (H : Hp) (xs : List V) (us : List Value) (Q : VK), Inv X pins σ H s → Vals xs us → r xs H Q →
    wpAny (model X.prog X.w) X.A (call f us) (EP X pins σ Q) X.xe s
/-- a value's truth -/
def TruR (X : Cx) (r : V → Hp → (Bool → Hp → Prop) → Prop) : Prop :=
  ∀ (pins : List (Addr × Obj)) (s : Shared) (σ : St) (H : Hp) (x : V) (v : Value) (Q : Bool → Hp → Prop), Inv X pins σ H s → RelV x v → r x H Q →
    wpAny (model X.prog X.w) X.A (truthy v) (TP X pins σ Q) X.xe s

def tOp (r : R2) (ta tb : TE) : TE := fun σ H Q => ta σ H fun x H1 => tb σ H1 fun y H2 => r x y H2 Q
def tUn (r : V → Hp → VK → Prop) (ta : TE) : TE := fun σ H Q => ta σ H fun x H1 => r x H1 Q
/-- ints in, under C, and a value out -/
def rI (C : Int → Int → Prop) (g : Int → Int → V) : R2 := fun x y H Q => ∃ i j, x = .int i ∧ y = .int j ∧ C i j ∧ Q (g i j) H
def rI0 (g : Int → Int → V) : R2 := fun x y H Q => ∃ i j, x = .int i ∧ y = .int j ∧ Q (g i j) H
def rU (g : Int → V) : V → Hp → VK → Prop := fun x H Q => ∃ i, x = .int i ∧ Q (g i) H

section
variable {X : Cx} {a b c : Expr} {ta tb tc : TE} {pos : Pos}

theorem binT (ha : PE X a ta) (hb : PE X b tb) {pins : List (Addr × Obj)} {s : Shared} {σ : St} {H : Hp} {R : V → V → Hp → Prop} (I : Inv X pins σ H s)
    (h : ta σ H fun x H1 => tb σ H1 fun y H2 => R x y H2) {Q : Value → Shared → Prop} {f : Value → Value → Sem Value}
    (hf : ∀ v u s2 x y H2, Inv X pins σ H2 s2 → RelV x v → RelV y u → R x y H2 → wpAny (model X.prog X.w) X.A (f v u) Q X.xe s2) :
    wpAny (model X.prog X.w) X.A (eval a X.env) (fun v s₁ => wpAny (model X.prog X.w) X.A (eval b X.env) (fun u s₂ => wpAny (model X.prog X.w) X.A (f v u) Q X.xe s₂) X.xe s₁) X.xe s := by
  refine thn (ha pins s σ H _ I h) fun v s1 ⟨x, H1, I1, r1, q1⟩ => ?_
  refine thn (hb pins s1 σ H1 _ I1 q1) fun u s2 ⟨y, H2, I2, r2, q2⟩ => ?_
  exact hf v u s2 x y H2 I2 r1 r2 q2

theorem pe_op {op : Operator} {r : R2} (ho : OpR X (binaryOp op) r) (ha : PE X a ta) (hb : PE X b tb) : PE X (.BinOp a op b pos) (tOp r ta tb) := by
  intro pins s σ H Q I h
  exact wpAny_BinOp (binT ha hb I h fun v u s2 x y H2 I2 rx ry q => ho pins s2 σ H2 x y v u Q I2 rx ry q)
theorem pe_un {op : UnaryOp} {r : V → Hp → VK → Prop} (ho : UnR X (unaryOp op) r) (ha : PE X a ta) : PE X (.UnaryOp op a pos) (tUn r ta) := by
  intro pins s σ H Q I h
  exact UnaryOp_ (thn (ha pins s σ H _ I h) fun v s1 ⟨x, H1, I1, r1, q1⟩ => ho pins s1 σ H1 x v Q I1 r1 q1)
/-! ### ints -/
theorem opI {f : Value → Value → Sem Value} {C : Int → Int → Prop} {g : Int → Int → Int}
    (rule : ∀ (i j : Int) (t u : Tok) (s : Shared) (Q : Value → Shared → Prop) (E : Value → Shared → Prop), C i j → Q (.int (g i j) s.toks) { s with toks := s.toks + 1 } → wpAny (model X.prog X.w) X.A (f (.int i t) (.int j u)) Q E s) :
    OpR X f (rI C fun i j => .int (g i j)) := by
  intro pins s σ H x y v u Q I rx ry h
  obtain ⟨i, j, rfl, rfl, hc, q⟩ := h
  obtain ⟨t, rfl⟩ := rx
  obtain ⟨t', rfl⟩ := ry
  exact rule i j t t' s _ _ hc ⟨.int (g i j), H, I.tok _, ⟨_, rfl⟩, q⟩
theorem opI0 {f : Value → Value → Sem Value} {g : Int → Int → Int}
    (rule : ∀ (i j : Int) (t u : Tok) (s : Shared) (Q : Value → Shared → Prop) (E : Value → Shared → Prop), Q (.int (g i j) s.toks) { s with toks := s.toks + 1 } → wpAny (model X.prog X.w) X.A (f (.int i t) (.int j u)) Q E s) :
    OpR X f (rI0 fun i j => .int (g i j)) := by
  intro pins s σ H x y v u Q I rx ry h
  obtain ⟨i, j, rfl, rfl, q⟩ := h
  obtain ⟨t, rfl⟩ := rx
  obtain ⟨t', rfl⟩ := ry
  exact rule i j t t' s _ _ ⟨.int (g i j), H, I.tok _, ⟨_, rfl⟩, q⟩
theorem opB0 {f : Value → Value → Sem Value} {g : Int → Int → Bool}
    (rule : ∀ (i j : Int) (t u : Tok) (s : Shared) (Q : Value → Shared → Prop) (E : Value → Shared → Prop), Q (.bool (g i j)) s → wpAny (model X.prog X.w) X.A (f (.int i t) (.int j u)) Q E s) :
    OpR X f (rI0 fun i j => .bl (g i j)) := by
  intro pins s σ H x y v u Q I rx ry h
  obtain ⟨i, j, rfl, rfl, q⟩ := h
  obtain ⟨t, rfl⟩ := rx
  obtain ⟨t', rfl⟩ := ry
  exact rule i j t t' s _ _ ⟨.bl (g i j), H, I, rfl, q⟩

def CDiv (i j : Int) : Prop := 0 < j ∧ j < 1073741824
def CDivN (i j : Int) : Prop := j ≠ 0 ∧ j.natAbs < 1073741824
def CPow (i j : Int) : Prop := 0 ≤ j ∧ j ≤ 1000000 ∧ i.natAbs < 2 ^ 64
def CMul (i j : Int) : Prop := (-(2 ^ 64) < i ∧ i < 2 ^ 64) ∨ (-(2 ^ 64) < j ∧ j < 2 ^ 64)
theorem CMul.ok {i j : Int} (h : CMul i j) : IntMulOk i j := by
  rcases h with ⟨h1, h2⟩ | ⟨h1, h2⟩
  · exact .of_left (intBits_le_64 h1 h2)
  · exact .of_right (intBits_le_64 h1 h2)
theorem op_add : OpR X (binaryOp .Add) (rI0 fun i j => .int (i + j)) := opI0 fun _ _ _ _ _ _ _ q => add_int q
theorem op_sub : OpR X (binaryOp .Sub) (rI0 fun i j => .int (i - j)) := opI0 fun _ _ _ _ _ _ _ q => sub_int q
theorem op_mul : OpR X (binaryOp .Mult) (rI CMul fun i j => .int (i * j)) := opI fun _ _ _ _ _ _ _ hc q => mul_int q hc.ok
/-- // by a positive divisor -/
theorem op_fdiv : OpR X (binaryOp .FloorDiv) (rI CDiv fun i j => .int (i / j)) := opI fun i j _ _ _ _ _ hc q => by
  have h1 : (0 : Int) < j := hc.1
  have h2 : j < 1073741824 := hc.2
  exact floordiv_int (by omega) (by rw [Int.fdiv_eq_ediv_of_nonneg i (by omega)]; exact q) (.inl (PyProof.noPylong_small (by omega)))
/-- % by a positive divisor of any size -/
theorem op_mod : OpR X (binaryOp .Mod) (rI (fun _ j => 0 < j) fun i j => .int (i % j)) := opI fun i j _ _ _ _ _ hc q => by
  have h1 : (0 : Int) < j := hc
  exact mod_int' (by omega) (by rw [Int.fmod_eq_emod_of_nonneg i (by omega)]; exact q)
theorem op_pow : OpR X (binaryOp .Pow) (rI CPow fun i j => .int (i ^ j.toNat)) := opI fun _ _ _ _ _ _ _ hc q => pow_int_small hc.1 hc.2.1 hc.2.2 q
theorem unI {f : Value → Sem Value} {g : Int → Int}
    (rule : ∀ (i : Int) (t : Tok) (s : Shared) (Q : Value → Shared → Prop) (E : Value → Shared → Prop), Q (.int (g i) s.toks) { s with toks := s.toks + 1 } → wpAny (model X.prog X.w) X.A (f (.int i t)) Q E s) :
    UnR X f (rU fun i => .int (g i)) := by
  intro pins s σ H x v Q I rx h
  obtain ⟨i, rfl, q⟩ := h
  obtain ⟨t, rfl⟩ := rx
  exact rule i t s _ _ ⟨.int (g i), H, I.tok _, ⟨_, rfl⟩, q⟩
theorem un_neg : UnR X (unaryOp .USub) (rU fun i => .int (-i)) := unI fun _ _ _ _ _ q => neg_int q
/-! ### bools among ints: n += (a < b) -/
end

/-! ### comparisons -/
/-- the scalars that == tells apart as data does -/
def scal : V → V → Bool
  | .non, .non => true | .non, .int _ => true | .int _, .non => true | .non, .bl _ => true | .bl _, .non => true | .non, .str _ => true | .str _, .non => true
  | .int _, .int _ => true | .bl _, .bl _ => true | .str _, .str _ => true | .byt _, .byt _ => true
  | .int _, .str _ => true | .str _, .int _ => true | .bl _, .str _ => true | .str _, .bl _ => true
  | _, _ => false
def rEq : R2 := fun x y H Q => scal x y = true ∧ Q (.bl (decide (x = y))) H
def rNe : R2 := fun x y H Q => scal x y = true ∧ Q (.bl (!decide (x = y))) H

theorem dec_int {i j : Int} : decide (V.int i = V.int j) = (i == j) := by
  rw [Bool.eq_iff_iff]
  simp
theorem dec_bl {i j : Bool} : decide (V.bl i = V.bl j) = (i == j) := by
  rw [Bool.eq_iff_iff]
  simp
theorem dec_str {i j : Str} : decide (V.str i = V.str j) = (i == j) := by
  rw [Bool.eq_iff_iff]
  simp
theorem dec_byt {i j : Array UInt8} : decide (V.byt i = V.byt j) = (i.toList == j.toList) := by
  rw [Bool.eq_iff_iff]
  cases i
  cases j
  simp

section
variable {X : Cx} {a b c : Expr} {ta tb tc : TE} {pos : Pos}
theorem fin_bl {pins : List (Addr × Obj)} {σ : St} {H : Hp} {s : Shared} {Q : VK} {k k' : Bool} (I : Inv X pins σ H s) (q : Q (.bl k) H) (e : k = k') : EP X pins σ Q (.bool k') s := by
  subst e
  exact ⟨.bl k, H, I, rfl, q⟩
theorem op_eq : OpR X (compareOp .Eq) rEq := by
  intro pins s σ H x y v u Q I rx ry h
  obtain ⟨hs, q⟩ := h
  cases x with
  | non =>
    cases rx
    cases y with
    | non => cases ry; exact PySem.EqNone.eq_none_none (fin_bl I q (by simp))
    | bl j => cases ry; exact PySem.EqNone.eq_none_bool (fin_bl I q (by simp))
    | int j => obtain ⟨t', rfl⟩ := ry; exact PySem.EqNone.eq_none_int (fin_bl I q (by simp))
    | str j => obtain ⟨t', rfl⟩ := ry; exact PySem.EqNone.eq_none_str (fin_bl I q (by simp))
    | _ => exact absurd (show false = true from hs) Bool.false_ne_true
  | bl i =>
    cases rx
    cases y with
    | non => cases ry; exact PySem.EqNone.eq_bool_none (fin_bl I q (by simp))
    | bl j => cases ry; exact eq_bool (fin_bl I q dec_bl)
    | str j => obtain ⟨t', rfl⟩ := ry; exact PySem.EqMixed.eq_bool_str (fin_bl I q (by simp))
    | _ => exact absurd (show false = true from hs) Bool.false_ne_true
  | int i =>
    obtain ⟨t, rfl⟩ := rx
    cases y with
    | non => cases ry; exact PySem.EqNone.eq_int_none (fin_bl I q (by simp))
    | int j => obtain ⟨t', rfl⟩ := ry; exact eq_int (fin_bl I q dec_int)
    | str j => obtain ⟨t', rfl⟩ := ry; exact PySem.EqMixed.eq_int_str (fin_bl I q (by simp))
    | _ => exact absurd (show false = true from hs) Bool.false_ne_true
  | str i =>
    obtain ⟨t, rfl⟩ := rx
    cases y with
    | non => cases ry; exact PySem.EqNone.eq_str_none (fin_bl I q (by simp))
    | bl j => cases ry; exact PySem.EqMixed.eq_str_bool (fin_bl I q (by simp))
    | int j => obtain ⟨t', rfl⟩ := ry; exact PySem.EqMixed.eq_str_int (fin_bl I q (by simp))
    | str j => obtain ⟨t', rfl⟩ := ry; exact eq_str (fin_bl I q dec_str)
    | _ => exact absurd (show false = true from hs) Bool.false_ne_true
  | byt i =>
    obtain ⟨t, rfl⟩ := rx
    cases y with
    | byt j => obtain ⟨t', rfl⟩ := ry; exact PySem.W.eq_bytes (fin_bl I q dec_byt)
    | _ => exact absurd (show false = true from hs) Bool.false_ne_true
  | _ => cases y <;> exact absurd (show false = true from hs) Bool.false_ne_true
theorem op_ne : OpR X (compareOp .NotEq) rNe := by
  intro pins s σ H x y v u Q I rx ry h
  obtain ⟨hs, q⟩ := h
  cases x with
  | non =>
    cases rx
    cases y with
    | non => cases ry; exact PySem.EqNone.ne_none_none (fin_bl I q (by simp))
    | bl j => cases ry; exact PySem.EqNone.ne_none_bool (fin_bl I q (by simp))
    | int j => obtain ⟨t', rfl⟩ := ry; exact PySem.EqNone.ne_none_int (fin_bl I q (by simp))
    | str j => obtain ⟨t', rfl⟩ := ry; exact PySem.EqNone.ne_none_str (fin_bl I q (by simp))
    | _ => exact absurd (show false = true from hs) Bool.false_ne_true
  | bl i =>
    cases rx
    cases y with
    | non => cases ry; exact PySem.EqNone.ne_bool_none (fin_bl I q (by simp))
    | bl j => cases ry; exact ne_bool (fin_bl I q (congrArg not dec_bl))
    | str j => obtain ⟨t', rfl⟩ := ry; exact PySem.EqMixed.ne_bool_str (fin_bl I q (by simp))
    | _ => exact absurd (show false = true from hs) Bool.false_ne_true
  | int i =>
    obtain ⟨t, rfl⟩ := rx
    cases y with
    | non => cases ry; exact PySem.EqNone.ne_int_none (fin_bl I q (by simp))
    | int j => obtain ⟨t', rfl⟩ := ry; exact ne_int (fin_bl I q (congrArg not dec_int))
    | str j => obtain ⟨t', rfl⟩ := ry; exact PySem.EqMixed.ne_int_str (fin_bl I q (by simp))
    | _ => exact absurd (show false = true from hs) Bool.false_ne_true
  | str i =>
    obtain ⟨t, rfl⟩ := rx
    cases y with
    | non => cases ry; exact PySem.EqNone.ne_str_none (fin_bl I q (by simp))
    | bl j => cases ry; exact PySem.EqMixed.ne_str_bool (fin_bl I q (by simp))
    | int j => obtain ⟨t', rfl⟩ := ry; exact PySem.EqMixed.ne_str_int (fin_bl I q (by simp))
    | str j => obtain ⟨t', rfl⟩ := ry; exact ne_str (fin_bl I q (congrArg not dec_str))
    | _ => exact absurd (show false = true from hs) Bool.false_ne_true
  | byt i =>
    obtain ⟨t, rfl⟩ := rx
    cases y with
    | byt j => obtain ⟨t', rfl⟩ := ry; exact PySem.W.ne_bytes (fin_bl I q (congrArg not dec_byt))
    | _ => exact absurd (show false = true from hs) Bool.false_ne_true
  | _ => cases y <;> exact absurd (show false = true from hs) Bool.false_ne_true

theorem op_lt : OpR X (compareOp .Lt) (rI0 fun i j => .bl (decide (i < j))) := opB0 fun _ _ _ _ _ _ _ q => lt_int q
theorem op_gt : OpR X (compareOp .Gt) (rI0 fun i j => .bl (decide (j < i))) := opB0 fun _ _ _ _ _ _ _ q => gt_int q
theorem op_ge : OpR X (compareOp .GtE) (rI0 fun i j => .bl (decide (j ≤ i))) := opB0 fun _ _ _ _ _ _ _ q => ge_int q
theorem op_lt_str : OpR X (compareOp .Lt) (fun x y H Q => ∃ i j, x = .str i ∧ y = .str j ∧ Q (.bl (decide (i.cps.toList < j.cps.toList))) H) := by
  intro pins s σ H x y v u Q I rx ry h
  obtain ⟨i, j, rfl, rfl, q⟩ := h
  obtain ⟨t, rfl⟩ := rx
  obtain ⟨t', rfl⟩ := ry
  exact lt_str (fin_bl I q rfl)
/-- is None, is not None: the right side a value none -/
theorem op_isN : OpR X (compareOp .Is) (fun x y H Q => y = .non ∧ Q (.bl (decide (x = .non))) H) := by
  intro pins s σ H x y v u Q I rx ry h
  obtain ⟨rfl, q⟩ := h
  cases ry
  refine is_none_gen (fin_bl I q ?_)
  cases x <;> first
    | (cases rx; rfl)
    | (obtain ⟨t, rfl⟩ := rx; rfl)
theorem op_notN : OpR X (compareOp .IsNot) (fun x y H Q => y = .non ∧ Q (.bl (!decide (x = .non))) H) := by
  intro pins s σ H x y v u Q I rx ry h
  obtain ⟨rfl, q⟩ := h
  cases ry
  refine isnot_none_gen (fin_bl I q ?_)
  cases x <;> first
    | (cases rx; rfl)
    | (obtain ⟨t, rfl⟩ := rx; rfl)

/-- is, is not of two objects that are tracked lists or instances -/
def isObj : HO → Bool
  | .lst _ => true
  | .ins _ _ _ => true
  | _ => false
theorem nomark (b : Expr) {op : CmpOp} (h : op ≠ .In := by decide) (h2 : op ≠ .NotIn := by decide) : behindInMarks op b = false := by
  have e1 : (op == CmpOp.In) = false := by cases op <;> first | rfl | exact absurd rfl h
  have e2 : (op == CmpOp.NotIn) = false := by cases op <;> first | rfl | exact absurd rfl h2
  cases b <;> simp [behindInMarks, e1, e2]
/-- a comparison as a value; hm: nomark b, or (for in, not in) by with_unfolding_all rfl -/
theorem pe_cmpR {op : CmpOp} {r : R2} (ho : OpR X (compareOp op) r) (ha : PE X a ta) (hb : PE X b tb) (hm : behindInMarks op b = false) : PE X (.Compare a [op] [b] pos) (tOp r ta tb) := by
  intro pins s σ H Q I h
  exact wpAny_Compare1 (binT ha hb I h fun v u s2 x y H2 I2 rx ry q => ho pins s2 σ H2 x y v u Q I2 rx ry q) hm
/-- a reading of a value as a test -/
def tTest (t : TE) : TT := fun σ H Q => t σ H fun x H' => ∃ k, x = .bl k ∧ Q k H'
theorem pt_cmpR {op : CmpOp} {r : R2} (ho : OpR X (compareOp op) r) (ha : PE X a ta) (hb : PE X b tb) (hm : behindInMarks op b = false) : PT X (.Compare a [op] [b] pos) (tTest (tOp r ta tb)) := by
  intro pins s σ H Q I h
  refine wpAny_isTrue_Compare1 (thn (ha pins s σ H _ I h) fun v s1 ⟨x, H1, I1, r1, q1⟩ => thn (hb pins s1 σ H1 _ I1 q1) fun u s2 ⟨y, H2, I2, r2, q2⟩ =>
    thn (ho pins s2 σ H2 x y v u _ I2 r1 r2 q2) fun c s3 ⟨z, H3, I3, r3, k, e, q3⟩ => ?_) hm
  subst e
  cases r3
  exact wpAny_truthy_bool ⟨H3, I3, q3⟩
/-- a op1 b op2 c -/
def tChain (r r' : R2) (ta tb tc : TE) : TE := fun σ H Q => ta σ H fun x H1 => tb σ H1 fun y H2 => r x y H2 fun z H3 => ∃ k, z = .bl k ∧
  (if k = true then tc σ H3 fun w' H4 => r' y w' H4 Q else Q (.bl false) H3)
/-! ### truth -/
/-- a value's truth by the abstract heap -/
def TruV (K : PySem.W.Frag) (x : V) (H : Hp) (k : Bool) : Prop :=
  match x with
  | .non => k = false
  | .bl b => k = b
  | .int i => k = (i != 0)
  | .str y => y.length ≤ sizeLine ∧ k = ((y.length : Int) != 0)
  | .byt y => y.size ≤ sizeLine ∧ k = ((y.size : Int) != 0)
  | .ref p => (∃ xs, SqL K H p xs ∧ k = !xs.isEmpty) ∨ (∃ xs, SqT K H p xs ∧ k = !xs.isEmpty) ∨ ∃ kvs, H p = some (.dK kvs) ∧ k = !kvs.isEmpty
  | _ => False
theorem line63 : (sizeLine : Nat) < 2 ^ 63 := by rw [sizeLine_eq]; decide
/-! ### strs and bytes -/
theorem op_add_str : OpR X (binaryOp .Add) (fun x y H Q => ∃ i j, x = .str i ∧ y = .str j ∧ i.length + j.length ≤ sizeLine ∧ Q (.str (i ++ j)) H) := by
  intro pins s σ H x y v u Q I rx ry h
  obtain ⟨i, j, rfl, rfl, hz, q⟩ := h
  obtain ⟨t, rfl⟩ := rx
  obtain ⟨t', rfl⟩ := ry
  exact add_str (fun t' tk => ⟨.str (i ++ j), H, I.tok _, ⟨_, rfl⟩, q⟩) hz
def PlainIxT (b : Expr) : Prop := ∀ o i, subscripted b false o i = operate [o, i] (getItem o i)
/-! ### scalar builtins, by CallR -/
theorem vals1 {x : V} {us : List Value} (r : Vals [x] us) : ∃ u, us = [u] ∧ RelV x u := by
  cases r with
  | cons r1 r2 => cases r2; exact ⟨_, rfl, r1⟩
theorem vals2 {x y : V} {us : List Value} (r : Vals [x, y] us) : ∃ u w', us = [u, w'] ∧ RelV x u ∧ RelV y w' := by
  cases r with
  | cons r1 r2 =>
    cases r2 with
    | cons r3 r4 => cases r4; exact ⟨_, _, rfl, r1, r3⟩
theorem call_abs : CallR X (.builtin "abs") (fun xs H Q => ∃ i, xs = [.int i] ∧ Q (.int (if i < 0 then -i else i)) H) := by
  intro pins s σ H xs us Q I r h
  obtain ⟨i, rfl, q⟩ := h
  obtain ⟨u, rfl, t, rfl⟩ := vals1 r
  exact call_abs_int fun u tk => ⟨.int (if i < 0 then -i else i), H, I.tok _, ⟨_, rfl⟩, q⟩
theorem call_max2 (hc : X.calm = true) : CallR X (.builtin "max") (fun xs H Q => ∃ i j, xs = [.int i, .int j] ∧ Q (.int (if j > i then j else i)) H) := by
  intro pins s σ H xs us Q I r h
  obtain ⟨i, j, rfl, q⟩ := h
  obtain ⟨u, w', rfl, ⟨t, rfl⟩, ⟨t', rfl⟩⟩ := vals2 r
  refine max_two_ints (I.ok.hd hc) fun h' tk k => ⟨_, H, I.kept k, ?_, q⟩
  by_cases hj : j > i
  · rw [if_pos hj, if_pos hj]; exact ⟨_, rfl⟩
  · rw [if_neg hj, if_neg hj]; exact ⟨_, rfl⟩
theorem call_min2 (hc : X.calm = true) : CallR X (.builtin "min") (fun xs H Q => ∃ i j, xs = [.int i, .int j] ∧ Q (.int (if j < i then j else i)) H) := by
  intro pins s σ H xs us Q I r h
  obtain ⟨i, j, rfl, q⟩ := h
  obtain ⟨u, w', rfl, ⟨t, rfl⟩, ⟨t', rfl⟩⟩ := vals2 r
  refine min_two_ints (I.ok.hd hc) fun h' tk k => ⟨_, H, I.kept k, ?_, q⟩
  by_cases hj : j < i
  · rw [if_pos hj, if_pos hj]; exact ⟨_, rfl⟩
  · rw [if_neg hj, if_neg hj]; exact ⟨_, rfl⟩
theorem call_int1 : CallR X (.type "int") (fun xs H Q => (∃ i, xs = [.int i] ∧ Q (.int i) H) ∨ ∃ k, xs = [.bl k] ∧ Q (.int (if k then 1 else 0)) H) := by
  intro pins s σ H xs us Q I r h
  rcases h with ⟨i, rfl, q⟩ | ⟨k, rfl, q⟩
  · obtain ⟨u, rfl, t, rfl⟩ := vals1 r
    exact call_int_int ⟨.int i, H, I, ⟨_, rfl⟩, q⟩
  · obtain ⟨u, rfl, r1⟩ := vals1 r
    cases r1
    exact call_int_bool ⟨.int (if k then 1 else 0), H, I.tok _, ⟨_, rfl⟩, q⟩
/-- len of a str, a bytes, a list, a tuple -/
def LenV (K : PySem.W.Frag) (x : V) (H : Hp) (n : Nat) : Prop :=
  match x with
  | .str y => y.length ≤ sizeLine ∧ n = y.length
  | .byt y => y.size ≤ sizeLine ∧ n = y.size
  | .ref p => (∃ xs, SqL K H p xs ∧ n = xs.length) ∨ ∃ xs, SqT K H p xs ∧ n = xs.length
  | _ => False
end
end L2

namespace L2
open PySem PySem.Spec PyProof.Rows

/-! ### an instance, its attributes a map -/
structure ObjM (h : Heap) (x dx C : Addr) (mA : Str → Option Value) : Prop where
  obj : h.get? x = some (PySem.W.instObj C dx)
  ns : h.Ns1 dx mA
  ne : dx ≠ x

theorem lookIn_ns {h : Heap} {dx : Addr} {mA : Str → Option Value} (n : h.Ns1 dx mA) : ∃ od, h.get? dx = some od ∧ ∀ name, PySem.W.lookIn name od = some (mA name) := by
  obtain ⟨o, es, ep, ho, hd, hk, _, hm⟩ := n
  refine ⟨o, ho, fun name => ?_⟩
  have e := hm name
  unfold nsFind findBy at e
  rw [← Array.find?_toList] at e
  unfold PySem.W.lookIn
  rw [hd]
  dsimp only
  split
  · rename_i y q
    rw [q] at e
    exact congrArg some e
  · rename_i q
    rw [q] at e
    have a : es.toList.any (·.refKey) = false := by
      rw [List.any_eq_false]
      intro y hy
      obtain ⟨z, t, hkey⟩ := hk y (Array.mem_toList_iff.mp hy)
      simp [DictEntry.refKey, hkey]
    have a' : ¬ es.toList.any (·.refKey) = true := by rw [a]; exact Bool.false_ne_true
    rw [if_neg a']
    exact congrArg some e

theorem ObjM.look {h : Heap} {x dx C : Addr} {mA : Str → Option Value} (I : ObjM h x dx C mA) : ∃ od, PySem.W.InstAt h x (PySem.W.instObj C dx) C (some od) ∧ ∀ name, PySem.W.lookIn name od = some (mA name) :=
  let ⟨od, ho, hl⟩ := lookIn_ns I.ns
  ⟨od, ⟨I.obj, rfl, rfl, ho⟩, hl⟩

section
variable {prog : Program} {w : World} {A : Around} {E : Value → Shared → Prop} {s : Shared} {K : PySem.W.Frag} {x dx C f : Addr} {mA : Str → Option Value} {name : Str} {v : Value}

end

/-! ### the attributes as a list of pairs -/
def putF (f : Str) (v : V) : List (Str × V) → List (Str × V)
  | [] => [(f, v)]
  | (g, x) :: r => if g = f then (g, v) :: r else (g, x) :: putF f v r
theorem RelO.some_of {v : V} {o : Option Value} (r : RelO (some v) o) : ∃ u, o = some u ∧ RelV v u := by
  cases o with
  | none => exact (show False from r).elim
  | some u => exact ⟨u, rfl, r⟩
section
variable {P : Program} {w : World} {H H' : Hp} {h h' : Heap} {a C dx : Addr} {fs fs' : List (Str × V)}
theorem ins_get (hok : HOk P w H h) (e : H a = some (.ins C dx fs)) : ∃ mA, ObjM h a dx C mA ∧ (∀ f, RelO (fs.lookup f) (mA f)) ∧ PySem.Within mA (fs.map (·.1)) ∧ fs.length ≤ 1000 ∧ H dx = some (.own a) := by
  obtain ⟨d, z, ne, ob, mA, n, r, q⟩ := (show ObjOk P w H h a (.ins C dx fs) from hok a _ e)
  exact ⟨mA, ⟨ob, n, ne⟩, r, q, z, d⟩
end

/-! ### what of the text a class must have -/
structure Cls (K : PySem.W.Frag) (C : Addr) : Prop where
  pg : PySem.W.plainGet K C Str.empty = true
  hd : PySem.W.hasDictIn K C = true
  po : PySem.W.plainOver K C = true
  sa : PySem.W.findIn K (.ref C) "__setattr__" = some (some (.builtin "object.__setattr__"))
theorem Cls.get {K : PySem.W.Frag} {C : Addr} (c : Cls K C) (f : Str) : PySem.W.plainGet K C f = true := c.pg
/-- no class of it has the name -/
def NoAttr (K : PySem.W.Frag) (C : Addr) (f : Str) : Prop := PySem.W.findIn K (.ref C) f = some none
/-- a constant of the class -/
structure Con (K : PySem.W.Frag) (C : Addr) (f : Str) (v : V) (u : Value) : Prop where
  at_ : PySem.W.findIn K (.ref C) f = some (some u)
  rel : RelV v u
  get : PySem.W.specialIn K u "__get__" = some none
  cp : PySem.W.copiedNames.contains f = false
/-- a method: a plain def of the class or of one above it -/
structure Meth (K : PySem.W.Frag) (C : Addr) (m : Str) (f : Addr) : Prop where
  at_ : PySem.W.findIn K (.ref C) m = some (some (.ref f))
  fn : PySem.W.isFn K (.ref f) = true
  kp : PySem.W.keepIn K (.ref f) = true

section
variable {X : Cx} {pins : List (Addr × Obj)} {σ : St} {H : Hp} {s : Shared} {a C dx : Addr} {fs : List (Str × V)} {f : Str} {v : V} {A : Around} {E : Value → Shared → Prop}

end

/-! ### readings and rules -/
/-- e.f, an attribute of the instance -/
def tFld (K : PySem.W.Frag) (ta : TE) (f : Str) : TE := fun σ H Q => ta σ H fun x H1 => ∃ a C dx fs v, x = .ref a ∧ H1 a = some (.ins C dx fs) ∧ Cls K C ∧ NoAttr K C f ∧ fs.lookup f = some v ∧ Q v H1
/-- e.f, a constant of the class -/
def tCon (K : PySem.W.Frag) (ta : TE) (f : Str) : TE := fun σ H Q => ta σ H fun x H1 => ∃ a C dx fs v u, x = .ref a ∧ H1 a = some (.ins C dx fs) ∧ Cls K C ∧ Con K C f v u ∧ fs.lookup f = none ∧ Q v H1
/-- e.f = value -/
def sFld (K : PySem.W.Frag) (ta tv : TE) (f : Str) : TS := fun D σ H => tv σ H fun y H1 => ta σ H1 fun x H2 => ∃ a C dx fs, x = .ref a ∧ H2 a = some (.ins C dx fs) ∧ Cls K C ∧ NoAttr K C f ∧ fs.length < 1000 ∧
  D.nx σ (upd H2 a (.ins C dx (putF f y fs)))
/-- an augmented operator on two values -/
def InOp (X : Cx) (op : Operator) (rd : V → V → Hp → VK → Prop) : Prop :=
  ∀ (pins : List (Addr × Obj)) (s : Shared) (σ : St) (H : Hp) (x y : V) (u v : Value) (Q : VK), Inv X pins σ H s → RelV x u → RelV y v → rd x y H Q → wpAny (model X.prog X.w) X.A (inplaceOp op u v) (EP X pins σ Q) X.xe s
/-- e.f op= value -/
def sFldAug (K : PySem.W.Frag) (ta tv : TE) (rd : V → V → Hp → VK → Prop) (f : Str) : TS := fun D σ H => ta σ H fun x H1 => ∃ a C dx fs v, x = .ref a ∧ H1 a = some (.ins C dx fs) ∧ Cls K C ∧ NoAttr K C f ∧ fs.lookup f = some v ∧
  tv σ H1 fun y H2 => rd v y H2 fun z H3 => ∃ dx' fs', H3 a = some (.ins C dx' fs') ∧ fs'.length < 1000 ∧ D.nx σ (upd H3 a (.ins C dx' (putF f z fs')))

section
variable {X : Cx} {o e value : Expr} {f : Str} {pos pos' tpos : Pos} {ta tv : TE}
def rAdd : V → V → Hp → VK → Prop := fun x y H Q => ∃ i j, x = .int i ∧ y = .int j ∧ Q (.int (i + j)) H
def rSub : V → V → Hp → VK → Prop := fun x y H Q => ∃ i j, x = .int i ∧ y = .int j ∧ Q (.int (i - j)) H
end

/-! ### isinstance -/
section
variable {X : Cx} {pins : List (Addr × Obj)} {σ : St} {H : Hp} {s : Shared} {A : Around} {E : Value → Shared → Prop} {Q : Value → Shared → Prop} {c : Value} {b : Bool}
/-- the type of a value, as the fragment's deciders take it; for an instance its class -/
inductive TyOf (K : PySem.W.Frag) (H : Hp) : V → Value → Prop where
  | non : TyOf K H .non (.type "NoneType")
  | bl (x : Bool) : TyOf K H (.bl x) (.type "bool")
  | int (i : Int) : TyOf K H (.int i) (.type "int")
  | str (x : Str) : TyOf K H (.str x) (.type "str")
  | flt (x : UInt64) : TyOf K H (.flt x) (.type "float")
  | lst {a : Addr} {xs : List V} (e : H a = some (.lst xs)) : TyOf K H (.ref a) (.type "list")
  | frz {a : Addr} {o : Obj} {xs : List V} (e : H a = some (.frz o (.lst xs))) : TyOf K H (.ref a) (.type "list")
  | tup {a : Addr} {xs : List V} (e : H a = some (.tup xs)) : TyOf K H (.ref a) (.type "tuple")
  | dK {a : Addr} {kvs : List (Key × V)} (e : H a = some (.dK kvs)) : TyOf K H (.ref a) (.type "dict")
  | dT {a : Addr} {kvs : List (List Key × V)} (e : H a = some (.dT kvs)) : TyOf K H (.ref a) (.type "dict")
  | ins {a C dx : Addr} {fs : List (Str × V)} (e : H a = some (.ins C dx fs)) (cl : Cls K C) (ha : PySem.W.findIn K (.ref C) "__class__" = some (some (.builtin "object.__class__")))
      (hn : PySem.W.specialIn K (.builtin "object.__class__") "__get__" = some (some (.builtin "getset_descriptor.__get__"))) (htk : PySem.W.takesIn K (.builtin "object.__class__") = some true)
      (hm : PySem.W.mroIn K C (.type "object") = some true) : TyOf K H (.ref a) (.ref C)
/-- isinstance(x, c) for one class c, a built-in or an own one: kitOne's answer -/
theorem isinst_ok {x : V} {u t : Value} (I : Inv X pins σ H s) (rx : RelV x u) (ty : TyOf X.K H x t) (e : PySem.W.kitOne X.K t c = some b) (h : ∀ tk, Q (.bool b) { s with toks := tk }) :
    wpAny (model X.prog X.w) A (call (.builtin "isinstance") [u, c]) Q E s := by
  cases ty with
  | non => cases (show u = Value.none from rx); exact PySem.W.kia_one PySem.W.kitx_none I.kIn True.intro e (fun z => nomatch z) h
  | bl y => cases (show u = Value.bool y from rx); exact PySem.W.kia_one PySem.W.kitx_bool I.kIn True.intro e (fun z => nomatch z) h
  | int i => obtain ⟨t, q⟩ := (show ∃ t, u = Value.int i t from rx); cases q; exact PySem.W.kia_one PySem.W.kitx_int I.kIn True.intro e (fun z => nomatch z) h
  | str y => obtain ⟨t, q⟩ := (show ∃ t, u = Value.str y t from rx); cases q; exact PySem.W.kia_one PySem.W.kitx_str I.kIn True.intro e (fun z => nomatch z) h
  | flt y => obtain ⟨t, q⟩ := (show ∃ t, u = Value.float y t from rx); cases q; exact PySem.W.kia_one PySem.W.kitx_float I.kIn True.intro e (fun z => nomatch z) h
  | @lst a xs ea =>
    cases (show u = Value.ref a from rx)
    obtain ⟨_, _, n, _, h1⟩ := (show ObjOk X.prog X.w H s.heap a (.lst xs) from I.hok a _ ea)
    exact PySem.W.kia_one PySem.W.kitx_list I.kIn ⟨_, h1, rfl⟩ e (fun z => nomatch z) h
  | @frz a ob xs ea =>
    cases (show u = Value.ref a from rx)
    obtain ⟨_, _, _, n, _, h1⟩ := (show ObjOk X.prog X.w H s.heap a (.frz ob (.lst xs)) from I.hok a _ ea)
    exact PySem.W.kia_one PySem.W.kitx_list I.kIn ⟨_, h1, rfl⟩ e (fun z => nomatch z) h
  | @tup a xs ea =>
    cases (show u = Value.ref a from rx)
    obtain ⟨_, _, _, p⟩ := (show ObjOk X.prog X.w H s.heap a (.tup xs) from I.hok a _ ea)
    obtain ⟨o, h1, h2, _⟩ := p
    exact PySem.W.kia_one PySem.W.kitx_tuple I.kIn ⟨o, h1, h2⟩ e (fun z => nomatch z) h
  | @dK a kvs ea =>
    cases (show u = Value.ref a from rx)
    obtain ⟨_, _, vs, _, p⟩ := (show ObjOk X.prog X.w H s.heap a (.dK kvs) from I.hok a _ ea)
    obtain ⟨o, es, ep, h1, h2, _⟩ := p
    exact PySem.W.kia_one PySem.W.kitx_dict I.kIn ⟨o, h1, h2.1⟩ e (fun z => nomatch z) h
  | @dT a kvs ea =>
    cases (show u = Value.ref a from rx)
    obtain ⟨_, _, xs, _, o, es, ep, h1, h2, _⟩ := (show ObjOk X.prog X.w H s.heap a (.dT kvs) from I.hok a _ ea)
    exact PySem.W.kia_one PySem.W.kitx_dict I.kIn ⟨o, h1, h2.1⟩ e (fun z => nomatch z) h
  | @ins a C dx fs ea cl ha hn htk hm =>
    cases (show u = Value.ref a from rx)
    obtain ⟨mA, O, _⟩ := ins_get I.hok ea
    obtain ⟨od, J, _⟩ := O.look
    exact PySem.W.kia_one (PySem.W.kitx_own (cl.get _) cl.hd ha hn htk hm) I.kIn J e (fun z => nomatch z) h
end
end L2

namespace L2
open PySem PySem.Spec PyProof.Rows

/-! ### room -/
structure Room (k : Nat) (A : Around) : Prop where
  hd : A.handled = none
  dp : A.depth + 3 * k + 5 < recursionLimit
  un : A.units + 16 * k + 200 < cLine
  gd : A.guards = some []
theorem Room.mono {j k : Nat} {A : Around} (r : Room k A) (h : j ≤ k) : Room j A := ⟨r.hd, by have := r.dp; omega, by have := r.un; omega, r.gd⟩
theorem Room.deeper {k : Nat} {A : Around} (r : Room (k + 1) A) (env : Env) : Room k (A.deeper env) :=
  ⟨r.hd, by have := r.dp; show A.depth + 1 + 3 * k + 5 < _; omega, by have := r.un; show A.units + 3 + 16 * k + 200 < _; omega, r.gd⟩
theorem Room.depth {k : Nat} {A : Around} (r : Room k A) : A.depth < recursionLimit := by have := r.dp; omega
theorem Room.units {k : Nat} {A : Around} (r : Room k A) : A.units + 64 < cLine := by have := r.un; omega
/-! ### argument lists and displays -/
def tNil : TA := fun _ H Q => Q [] H
def tCons (ta : TE) (tr : TA) : TA := fun σ H Q => ta σ H fun x H1 => tr σ H1 fun xs H2 => Q (x :: xs) H2
section
variable {X : Cx} {e : Expr} {es : List Expr} {te : TE} {t : TA} {pos : Pos}
theorem pa_nil : PA X [] tNil := fun _ _ _ _ H Q I h => Calls.spliced_nil ⟨[], H, I, .nil, h⟩
theorem pa_cons (ha : PE X e te) (hr : PA X es t) (hs : starEach (e :: es) X.env = (false, eval e X.env) :: starEach es X.env := by rfl) : PA X (e :: es) (tCons te t) := by
  intro pos pins s σ H Q I h
  rw [hs]
  show wpAny _ _ (spliced ((false, eval e X.env) :: backTo pos (starEach es X.env))) _ _ s
  refine Calls.spliced_cons (thn (ha pins s σ H _ I h) fun u s1 ⟨x, H1, I1, r1, q1⟩ => ?_)
  exact thn (hr pos pins s1 σ H1 _ I1 q1) fun us s2 ⟨xs, H2, I2, r2, q2⟩ => ⟨x :: xs, H2, I2, .cons r1 r2, q2⟩

/-- a tuple, a list of written items -/
def tTup (t : TA) : TE := fun σ H Q => t σ H fun xs H1 => xs.length ≤ sizeLine ∧ ∀ p, H1 p = none → Q (.ref p) (upd H1 p (.tup xs))
def tLst (t : TA) : TE := fun σ H Q => t σ H fun xs H1 => xs.length ≤ sizeLine ∧ ∀ p, H1 p = none → Q (.ref p) (upd H1 p (.lst xs))
theorem pe_tup {x1} (h : PA X es t) : PE X (.Tuple es x1 pos) (tTup t) := by
  intro pins s σ H Q I hq
  refine wpAny_Tuple_spliced (thn (h pos pins s σ H _ I hq) fun us s1 ⟨xs, H1, I1, r, z, q⟩ => ⟨by rw [← r.length]; exact z, ?_⟩)
  have hf : H1 s1.heap.objs.size = none := I1.hok.fresh (Nat.le_refl _)
  refine ⟨.ref s1.heap.objs.size, upd H1 s1.heap.objs.size (.tup xs), I1.laid (t' := s1.toks) (fun b u e => Heap.get?_push_of_some _ e) (Nat.le_refl _) ?_, rfl, q _ hf⟩
  exact ⟨z, us, r, ⟨_, Heap.get?_push_size _ rfl, rfl, _, rfl⟩⟩
theorem pe_lst (h : PA X es t) : PE X (.List es pos) (tLst t) := by
  intro pins s σ H Q I hq
  refine wpAny_List_spliced (thn (h pos pins s σ H _ I hq) fun us s1 ⟨xs, H1, I1, r, z, q⟩ => ⟨by rw [← r.length]; exact z, ?_⟩)
  have hf : H1 s1.heap.objs.size = none := I1.hok.fresh (Nat.le_refl _)
  refine ⟨.ref s1.heap.objs.size, upd H1 s1.heap.objs.size (.lst xs), I1.laid (t' := s1.toks) (fun b u e => Heap.get?_push_of_some _ e) (Nat.le_refl _) ?_, rfl, q _ hf⟩
  exact ⟨z, us, 0, r, Heap.get?_push_size _ rfl⟩
end

/-! ### what a def promises -/
/-- a def's promise: the bound arguments in the parameters' order, the heap, the wanted end, the wanted exception -/
abbrev Sp := List V → Hp → VK → XK → Prop
/-- how an exception lies behind a call (file 08 gives it): the callers' frames, abstract heap and state ahead of the call, the wish, the exception, the state -/
abbrev CXT := List Env → Hp → Shared → XK → Value → Shared → Prop

/-- the state at a call -/
structure Env0 (P : Program) (w : World) (K : PySem.W.Frag) (mg : Str → Option Value) (base : Heap) (A : Around) (outer : List Env) (s : Shared) (H : Hp) : Prop where
  frames : A.frames = some outer
  mod : Mod K mg base
  bs : ∀ b o, base.get? b = some o → s.heap.get? b = some o ∧ H b = none
  bsz : base.objs.size ≤ s.heap.objs.size
  funs : s.heap.FunFrames base outer
  frf : ∀ b ∈ frs outer, H b = none
  hok : HOk P w H s.heap
  bare : AllBare s.gens
/-- a call's end -/
def CE (outer : List Env) (P : Program) (w : World) (H : Hp) (s : Shared) (Q : VK) (u : Value) (s' : Shared) : Prop :=
  ∃ v H', s'.os = s.os ∧ AllBare s'.gens ∧ Un (frs outer) [] H H' s.heap s'.heap ∧ HOk P w H' s'.heap ∧ RelV v u ∧ Q v H'
def CR (CX : CXT) (outer : List Env) (P : Program) (w : World) (H : Hp) (s : Shared) (Q : VK) (E : XK) (r : Result) (s' : Shared) : Prop :=
  match r with
  | .ok (.ret u) => CE outer P w H s Q u s'
  | .ok _ => False
  | .error e => CX outer H s E e s'
structure FnOk (P : Program) (w : World) (K : PySem.W.Frag) (mg : Str → Option Value) (base : Heap) (CX : CXT) (k : Nat) (f : Addr) (fd : FuncData) (ps : List Str) (sp : Sp) : Prop where
  len : ∀ vs H Q E, sp vs H Q E → vs.length = ps.length
  run : ∀ (A : Around) (outer : List Env) (s : Shared) (H : Hp) (args : Args) (us : List Value) (vs : List V) (Q : VK) (E : XK), Room k A → Env0 P w K mg base A outer s H → BindsTo s fd args (ps.zip us) → Vals vs us → sp vs H Q E →
    codeAny (model P w) A (.call (.ref f) args) (CR CX outer P w H s Q E) s
section
variable {X : Cx} {pins : List (Addr × Obj)} {σ : St} {H : Hp} {s s' : Shared}
/-- from a body: what a callee wants -/
theorem Inv.env0 (I : Inv X pins σ H s) : Env0 X.prog X.w X.K X.mg X.base X.A X.stack s H :=
  ⟨I.ok.frames, I.ok.mod, I.bs, Nat.le_trans I.ok.bsz I.sz, I.stack, I.stkFree, I.hok, I.bare⟩
/-- behind a call -/
theorem Inv.after {Q : VK} {u : Value} (I : Inv X pins σ H s) (h : CE X.stack X.prog X.w H s Q u s') : EP X pins σ Q u s' := by
  obtain ⟨v, H', os, bare, un, hok, r, q⟩ := h
  obtain ⟨hh, g, d, t, os'⟩ := s'
  obtain rfl : os' = s.os := os
  exact ⟨v, H', I.call (h' := hh) (g' := g) (d' := d) (t' := t) (ch := []) un hok bare (fun b z => absurd z (by simp)), r, q⟩
end

/-! ### calls -/
/-- f(..): the written arguments, then the defaults dvs; E: what is wanted of an exception -/
def tCall (sp : Sp) (dvs : List V) (E : XK) (t : TA) : TE := fun σ H Q => t σ H fun vs H1 => sp (vs ++ dvs) H1 Q E
/-- o.m(..) of an instance of the class at C -/
def tMeth (C : Addr) (m : Str) (sp : Sp) (dvs : List V) (E : XK) (ta : TE) (t : TA) : TE := fun σ H Q => ta σ H fun x H1 => ∃ a dx fs, x = .ref a ∧ H1 a = some (.ins C dx fs) ∧ fs.lookup m = none ∧
  t σ H1 fun vs H2 => sp (x :: (vs ++ dvs)) H2 Q E
/-- C(..): a new instance and its dict, then __init__ -/
def tMake (C : Addr) (sp : Sp) (dvs : List V) (E : XK) (t : TA) : TE := fun σ H Q => t σ H fun vs H1 => ∀ x dx, H1 x = none → H1 dx = none → dx ≠ x →
  sp (.ref x :: (vs ++ dvs)) (upd (upd H1 dx (.own x)) x (.ins C dx [])) (fun v H2 => v = .non ∧ Q (.ref x) H2) E

/-- how the parameters are bound: us the positional arguments, kw the keywords' values by name, ds the defaults that fill up -/
def Binds (K : PySem.W.Frag) (fd : FuncData) (ps : List Str) (ds : List Value) : Prop :=
  ∀ (s : Shared) (us : List Value), K.In s.heap → (us ++ ds).length = ps.length → BindsTo s fd ⟨us, []⟩ (ps.zip (us ++ ds))
/-- every parameter is given -/
theorem Binds.all {K : PySem.W.Frag} {fd : FuncData} {ps : List Str} (h : ∀ us : List Value, us.length = ps.length → bindArgs fd ⟨us, []⟩ = pure (ps.zip us)) : Binds K fd ps [] := fun s us _ hl => by
  rw [List.append_nil] at hl ⊢
  exact .of_eq (h us hl)

/-- an exception of a callee reaches what this body wants of exceptions -/
def Passes (CX : CXT) (X : Cx) (E : XK) : Prop := ∀ (pins : List (Addr × Obj)) (σ : St) (H : Hp) (s : Shared) (e : Value) (s' : Shared), Inv X pins σ H s → CX X.stack H s E e s' → X.xe e s'

section
variable {X : Cx} {CX : CXT} {k : Nat} {f C : Addr} {fd : FuncData} {ps : List Str} {sp : Sp} {dvs : List V} {ds : List Value} {E : XK} {x m : Str} {p pos apos : Pos} {e o : Expr} {es : List Expr} {ta : TE} {t : TA}

/-- the callee runs -/
theorem run_fn {pins : List (Addr × Obj)} {σ : St} {H : Hp} {s : Shared} {Q : VK} {us : List Value} {vs : List V} (F : FnOk X.prog X.w X.K X.mg X.base CX k f fd ps sp) (hr : Room k X.A) (hb : Binds X.K fd ps ds) (hd : Vals dvs ds) (hx : Passes CX X E)
    (I : Inv X pins σ H s) (r : Vals vs us) (h : sp (vs ++ dvs) H Q E) : wpAny (model X.prog X.w) X.A (call (.ref f) us) (EP X pins σ Q) X.xe s := by
  have r2 : Vals (vs ++ dvs) (us ++ ds) := r.append hd
  have hl : (us ++ ds).length = ps.length := by rw [← r2.length]; exact F.len _ _ _ _ h
  refine wpAny_call (codeAny_mono (F.run X.A X.stack s H ⟨us, []⟩ (us ++ ds) (vs ++ dvs) Q E hr I.env0 (hb s us I.kIn hl) r2 h) fun r s' hq => ?_)
  cases r with
  | error e => exact hx pins σ H s e s' I hq
  | ok fl =>
    cases fl with
    | ret u => exact I.after hq
    | next => exact False.elim hq
    | brk => exact False.elim hq
    | cont => exact False.elim hq

theorem pe_call (F : FnOk X.prog X.w X.K X.mg X.base CX k f fd ps sp) (hr : Room k X.A) (hg : Gl X x) (hm : X.mg x = some (.ref f)) (hk : PySem.W.keepIn X.K (.ref f) = true) (hb : Binds X.K fd ps ds) (hd : Vals dvs ds) (hx : Passes CX X E)
    (ha : PA X (e :: es) t) (hdb : (x == ("__debug__" : Str)) = false := by decide) (he : starEach (e :: es) X.env = (false, eval e X.env) :: starEach es X.env := by rfl) (hpl : (backTo pos (starEach es X.env)).any (·.1) = false := by rfl) :
    PE X (.Call (.Name x p) (e :: es) [] pos) (tCall sp dvs E t) := by
  intro pins s σ H Q I h
  refine wpAny_Call_Name_kw (ld_glob I hg hm ?_ hdb)
  refine PySem.W.callWith_K (h₀ := X.base) I.ok.mod.kin hk (thn (ha pos pins s σ H _ I h) fun us s1 ⟨vs, H1, I1, r, q⟩ => ⟨I1.kIn, ?_⟩) he hpl
  exact run_fn F hr hb hd hx I1 r q
/-- what a class must have to be made -/
structure Mk (K : PySem.W.Frag) (C f : Addr) : Prop where
  makes : PySem.W.makesIn K C = true
  init : PySem.W.findIn K (.ref C) "__init__" = some (some (.ref f))
  fn : PySem.W.isFn K (.ref f) = true
  kp : PySem.W.keepIn K (.ref C) = true

end

/-! ### keywords -/
/-- the values of the keywords, from the left -/
def PK (X : Cx) (kws : List Keyword) (t : TA) : Prop :=
  ∀ (pos : Pos) (pins : List (Addr × Obj)) (s : Shared) (σ : St) (H : Hp) (Q : List V → Hp → Prop), Inv X pins σ H s → t σ H Q → wpAny (model X.prog X.w) X.A (evalAll ((backToKw pos (keywordEach kws X.env)).map (·.2))) (AP X pins σ Q) X.xe s
section
variable {X : Cx} {CX : CXT} {k : Nat} {f C : Addr} {fd : FuncData} {ps ks : List Str} {sp : Sp} {E : XK} {x m : Str} {p pos apos kpos : Pos} {e o : Expr} {es : List Expr} {kws : List Keyword} {te ta : TE} {t tk : TA} {nm : Option Str}
/-- how a call with keywords binds: g puts the positional values us and the keywords' values ws (names ks) in the parameters' order, defaults among them -/
structure KBinds (K : PySem.W.Frag) (fd : FuncData) (ps ks : List Str) (g : List Value → List Value → List Value) (gV : List V → List V → List V) : Prop where
  to : ∀ (s : Shared) (us ws : List Value), K.In s.heap → (g us ws).length = ps.length → BindsTo s fd ⟨us, ks.zip ws⟩ (ps.zip (g us ws))
  rel : ∀ {vs : List V} {us : List Value} {zs : List V} {ws : List Value}, Vals vs us → Vals zs ws → Vals (gV vs zs) (g us ws)
def tCallK (sp : Sp) (gV : List V → List V → List V) (E : XK) (t tk : TA) : TE := fun σ H Q => t σ H fun vs H1 => tk σ H1 fun zs H2 => sp (gV vs zs) H2 Q E
variable {g : List Value → List Value → List Value} {gV : List V → List V → List V}
end

/-! ### a def's body keeps its promise -/
/-- names: the parameters first -/
structure FnScope (N P : List Str) (sc : Scope) : Prop where
  kind : sc.kind = .function
  co : sc.isCoroutine = false
  gen : sc.isGenerator = false
  nd : N.Nodup
  pre : N.take P.length = P
  par : ∀ x ∈ P, sc.names.lookup x = some .local ∨ sc.names.lookup x = some .cell
  nofree : ∀ y ∈ sc.names, y.2 ≠ .free

theorem bindL_out {kindOf : Str → Option NameKind} {x : Str} : ∀ {binds : List (Str × Value)} {m : Str → Option Value}, (∀ v, (x, v) ∉ binds) → bindL kindOf binds m x = m x
  | [], _, _ => rfl
  | (n, v) :: r, m, h => by
    unfold bindL
    rw [bindL_out fun w hw => h w (List.mem_cons_of_mem _ hw)]
    split
    · have : x ≠ n := by rintro rfl; exact h v List.mem_cons_self
      simp [this]
    · rfl
theorem bindC_out {kindOf : Str → Option NameKind} {x : Str} : ∀ {binds : List (Str × Value)} {m : Str → Option Value}, (∀ v, (x, v) ∉ binds) → bindC kindOf binds m x = m x
  | [], _, _ => rfl
  | (n, v) :: r, m, h => by
    unfold bindC
    rw [bindC_out fun w hw => h w (List.mem_cons_of_mem _ hw)]
    split
    · rfl
    · have : x ≠ n := by rintro rfl; exact h v List.mem_cons_self
      simp [this]
theorem bindL_get {kindOf : Str → Option NameKind} {x : Str} {v : Value} : ∀ {P : List Str} {vs : List Value} {i : Nat} {m : Str → Option Value}, P.Nodup → P[i]? = some x → vs[i]? = some v → kindOf x = some .local →
    bindL kindOf (P.zip vs) m x = some v
  | [], _, _, _, _, h, _, _ => by simp at h
  | _ :: _, [], _, _, _, _, h, _ => by simp at h
  | p :: P, w :: vs, 0, m, nd, h1, h2, hk => by
    simp at h1 h2; subst h1; subst h2
    show bindL kindOf ((p, w) :: P.zip vs) m p = _
    unfold bindL
    rw [bindL_out fun v hv => (List.nodup_cons.mp nd).1 (List.of_mem_zip hv).1, if_pos hk]
    simp
  | p :: P, w :: vs, i + 1, m, nd, h1, h2, hk => by
    show bindL kindOf ((p, w) :: P.zip vs) m x = _
    unfold bindL
    exact bindL_get (i := i) (List.nodup_cons.mp nd).2 (by simpa using h1) (by simpa using h2) hk
theorem bindC_get {kindOf : Str → Option NameKind} {x : Str} {v : Value} : ∀ {P : List Str} {vs : List Value} {i : Nat} {m : Str → Option Value}, P.Nodup → P[i]? = some x → vs[i]? = some v → kindOf x ≠ some .local →
    bindC kindOf (P.zip vs) m x = some v
  | [], _, _, _, _, h, _, _ => by simp at h
  | _ :: _, [], _, _, _, _, h, _ => by simp at h
  | p :: P, w :: vs, 0, m, nd, h1, h2, hk => by
    simp at h1 h2; subst h1; subst h2
    show bindC kindOf ((p, w) :: P.zip vs) m p = _
    unfold bindC
    rw [bindC_out fun v hv => (List.nodup_cons.mp nd).1 (List.of_mem_zip hv).1, if_neg hk]
    simp
  | p :: P, w :: vs, i + 1, m, nd, h1, h2, hk => by
    show bindC kindOf ((p, w) :: P.zip vs) m x = _
    unfold bindC
    exact bindC_get (i := i) (List.nodup_cons.mp nd).2 (by simpa using h1) (by simpa using h2) hk

/-- the names' values at the entry -/
def start (N : List Str) (vs : List V) : St := vs.map some ++ List.replicate (N.length - vs.length) none

/-- the context of a def's body, at its entry; an exception leaves the frame, then lies as CX says -/
def cxOf (CX : CXT) (P : Program) (w : World) (K : PySem.W.Frag) (mg : Str → Option Value) (base : Heap) (N : List Str) (qual : Str) (scope : Scope) (f : Addr) (cd : Value) (A : Around) (outer : List Env) (s : Shared) (H : Hp) (E : XK) : Cx where
  prog := P
  w := w
  K := K
  mg := mg
  base := base
  A := A.deeper (envOfC qual scope s.heap.objs.size f cd)
  N := N
  s₀ := s
  H₀ := H
  env := envOfC qual scope s.heap.objs.size f cd
  outer := outer
  stack := envOfC qual scope s.heap.objs.size f cd :: outer
  ex := []
  calm := true
  fn := fun _ => true
  pn := []
  xe := fun e s' => wpAny (model P w) (A.deeper (envOfC qual scope s.heap.objs.size f cd)) (leaving (envOfC qual scope s.heap.objs.size f cd) e) (fun _ s'' => CX outer H s E e s'') (fun e' s'' => CX outer H s E e' s'') s'

theorem cell_has {sc : Scope} {n : Nat} {x : Str} (h : sc.names.lookup x = some .cell) : ∃ c, (cellsFrom n sc.names []).lookup x = some c := by
  have q := PySem.W.cellsFrom_some sc.names n [] (.inl h)
  exact Option.isSome_iff_exists.mp q

theorem inv_start {CX : CXT} {P : Program} {w : World} {K : PySem.W.Frag} {mg : Str → Option Value} {base : Heap} {N ps : List Str} {qual : Str} {scope : Scope} {f : Addr} {cd : Value} {A : Around} {outer : List Env} {s s1 : Shared} {H : Hp} {E : XK} {us : List Value} {vs : List V}
    (S : FnScope N ps scope) (hd : A.handled = none) (e0 : Env0 P w K mg base A outer s H) (hl : vs.length = ps.length) (r : Vals vs us)
    (x : InCallC s s.heap.objs.size (bindL (envOfC qual scope s.heap.objs.size f cd).kindOf (ps.zip us) fun _ => none) (cellsFrom (s.heap.objs.size + 1) scope.names []) (bindC (envOfC qual scope s.heap.objs.size f cd).kindOf (ps.zip us) fun _ => none) s1) :
    Inv (cxOf CX P w K mg base N qual scope f cd A outer s H E) [] (start N vs) H s1 := by
  have hpl : ps.length ≤ N.length := by have := congrArg List.length S.pre; rw [List.length_take] at this; omega
  obtain ⟨h1, tk, rfl, hk⟩ := x.done
  have noA : ∀ b : Addr, b ∉ (cxOf CX P w K mg base N qual scope f cd A outer s H E).ex := fun b z => absurd (show b ∈ ([] : List Addr) from z) (by simp)
  refine ⟨⟨e0.mod, S.kind, rfl, rfl, Nat.le_refl _, fun y z c h1 h2 => ?_, fun y hy => ?_, fun y c _ h => ?_, fun _ => hd, Around.frames_deeper e0.frames, .inr ⟨rfl, rfl⟩, fun b z => absurd z (noA b), e0.bs, e0.bsz, fun b _ _ => noA b, fun b z => absurd z (noA b), e0.funs, e0.frf⟩,
    rfl, e0.bare, Un.kept hk, ⟨_, x.toInCall.ns, fun i y v h1 h2 h3 => ?_⟩, fun y c h => ⟨_, x.cell y c h⟩, e0.hok.fresh (Nat.le_refl _), fun y c h => ?_, fun p hp => absurd (show p ∈ ([] : List (Addr × Obj)) from hp) (by simp), e0.hok.kept hk, ?_⟩
  · exact name_of_addr x.apart (PySem.mem_of_lookup h1) (PySem.mem_of_lookup h2)
  · have hy : scope.names.lookup y = some .cell ∨ scope.names.lookup y = some .free := hy
    rcases hy with hy | hy
    · exact cell_has hy
    · exact absurd rfl (S.nofree _ (PySem.mem_of_lookup hy))
  · exact Nat.le_of_lt (x.above y c (PySem.mem_of_lookup h))
  · have hi : i < vs.length := by
      unfold start at h2
      by_cases hi : i < vs.length
      · exact hi
      · rw [List.getElem?_append_right (by simpa using hi)] at h2
        rw [List.getElem?_replicate] at h2
        split at h2 <;> cases h2
    have ha : vs[i]? = some v := by
      unfold start at h2
      rw [List.getElem?_append_left (by simpa using hi), List.getElem?_map] at h2
      cases e : vs[i]? with
      | none => rw [e] at h2; cases h2
      | some a => rw [e] at h2; cases h2; rfl
    obtain ⟨u, hu, rv⟩ := r.get ha
    have hp : ps[i]? = some y := by
      rw [← S.pre, List.getElem?_take_of_lt (by omega)]; exact h1
    have ndP : ps.Nodup := by rw [← S.pre]; exact S.nd.sublist (List.take_sublist _ _)
    refine ⟨u, rv, ?_⟩
    rcases S.par y (List.mem_of_getElem? hp) with k | k
    · exact .inl ⟨k, bindL_get ndP hp hu k⟩
    · obtain ⟨c, e⟩ := cell_has (n := s.heap.objs.size + 1) k
      refine .inr ⟨.inl k, c, e, ?_⟩
      have q := x.cell y c e
      rw [bindC_get ndP hp hu (by show scope.names.lookup y ≠ _; rw [k]; decide)] at q
      exact q
  · exact e0.hok.fresh (Nat.le_of_lt (x.above y c (PySem.mem_of_lookup h)))
  · unfold start
    show _ = N.length
    rw [List.length_append, List.length_map, List.length_replicate]
    omega

/-- THE RULE: a def (or a method) of the text, by its body. The body's reading t is chosen for each entry; it is run at the parameters' values -/
theorem fn_of {CX : CXT} {P : Program} {w : World} {K : PySem.W.Frag} {mg : Str → Option Value} {base : Heap} {k : Nat} {f : Addr} {name qual : Str} {params : Arguments} {body : List Stmt} {scope : Scope} {dV kV doc pm cdv ct oc : Value} {an od : Option Addr}
    {osl : Array (Option Value)} {N ps : List Str} {sp : Sp} (lk : K.lookup f = some ⟨oc, od, .func (PySem.W.fnOf name qual params body scope dV kV doc pm an cdv ct), osl⟩) (hcd : PySem.W.codeIn K cdv qual = true) (S : FnScope N ps scope)
    (len : ∀ vs H Q E, sp vs H Q E → vs.length = ps.length)
    (hbody : ∀ (A : Around) (outer : List Env) (s : Shared) (H : Hp) (vs : List V) (Q : VK) (E : XK), Room k (A.deeper (envOfC qual scope s.heap.objs.size f cdv)) → sp vs H Q E →
      ∃ t, PSs (cxOf CX P w K mg base N qual scope f cdv A outer s H E) body t ∧ t { nx := fun _ H' => Q .non H', rt := Q } (start N vs) H) :
    FnOk P w K mg base CX (k + 1) f (PySem.W.fnOf name qual params body scope dV kV doc pm an cdv ct) ps sp := by
  refine ⟨len, fun A outer s H args us vs Q E hr e0 hb r hsp => ?_⟩
  have hl := len _ _ _ _ hsp
  have KX : K.In s.heap := e0.mod.kin.keeps fun b o e => (e0.bs b o e).1
  have lim : s.heap.NoLimit := e0.mod.nolimit.keeps fun b o e => (e0.bs b o e).1
  have hkind : ∀ y ∈ ps.zip us, scope.names.lookup y.1 = some .local ∨ (scope.names.lookup y.1 = some .cell ∧ ((cellsFrom (s.heap.objs.size + 1) scope.names []).lookup y.1).isSome = true) := fun ⟨n, v⟩ hy => by
    rcases S.par n (List.of_mem_zip hy).1 with q | q
    · exact .inl q
    · exact .inr ⟨q, PySem.W.cellsFrom_some _ _ _ (.inl q)⟩
  refine codeAny_call_function hr.depth (KX _ _ lk) rfl S.co S.gen rfl (PySem.W.codeRec_of KX hcd) (hb _ _ _ _ ?_)
  refine wpAny_newFunctionEnv_cells S.kind hkind fun env he s1 x => ?_
  subst he
  refine ⟨lim.keeps x.toInCall.keep, codeAny_func ?_⟩
  obtain ⟨t, ht, hq⟩ := hbody A outer s H vs Q E (hr.deeper _) hsp
  have I : Inv (cxOf CX P w K mg base N qual scope f cdv A outer s H E) [] (start N vs) H s1 := inv_start S hr.hd e0 hl r x
  refine wpAny_mono (ht [] s1 (start N vs) H _ I hq) (fun fl s' hs => ?_) fun e s' hs => hs
  have fin : ∀ {σ' : St} {H' : Hp} {v : V} {u : Value}, Inv (cxOf CX P w K mg base N qual scope f cdv A outer s H E) [] σ' H' s' → RelV v u → Q v H' → CE outer P w H s Q u s' :=
    fun {σ' H' v u} J rv q => ⟨v, H', J.os, J.bare, J.base, J.hok, rv, q⟩
  cases fl with
  | ret u =>
    obtain ⟨v, σ', H', J, rv, q⟩ := hs
    exact fin J rv q
  | next =>
    obtain ⟨σ', H', J, q⟩ := hs
    exact fin (v := V.non) (u := Value.none) J rfl q
  | brk =>
    obtain ⟨_, _, _, q⟩ := hs
    exact False.elim q
  | cont =>
    obtain ⟨_, _, _, q⟩ := hs
    exact False.elim q
end L2

namespace L2
open PySem PySem.Spec PyProof.Rows
section
variable {X : Cx} {x : Str} {p pos : Pos} {e : Expr} {es : List Expr} {t : TA} {id T : String} {r : List V → Hp → VK → Prop}

def tCB (r : List V → Hp → VK → Prop) (t : TA) : TE := fun σ H Q => t σ H fun vs H1 => r vs H1 Q
/-- f(e, ..), f a built-in function -/
theorem pe_callB (hc : CallR X (.builtin id) r) (hg : Gl X x) (hm : X.mg x = none) (hv : bootBuiltins x = some (.builtin id)) (ha : PA X (e :: es) t) (hn : x ≠ "__name__" := by decide) (hdb : (x == ("__debug__" : Str)) = false := by decide)
    (he : starEach (e :: es) X.env = (false, eval e X.env) :: starEach es X.env := by rfl) (hpl : (backTo pos (starEach es X.env)).any (·.1) = false := by rfl) : PE X (.Call (.Name x p) (e :: es) [] pos) (tCB r t) := by
  intro pins s σ H Q I h
  refine wpAny_Call_Name_kw (ld_blt I hg hm hv ?_ hn hdb)
  exact PyProof.Rows.callWith_builtin1 (thn (ha pos pins s σ H _ I h) fun us s1 ⟨vs, H1, I1, r1, q1⟩ => hc pins s1 σ H1 vs us Q I1 r1 q1) he hpl
/-- T(e, ..), T a built-in type -/
theorem pe_callTy (hc : CallR X (.type T) r) (hg : Gl X x) (hm : X.mg x = none) (hv : bootBuiltins x = some (.type T)) (ha : PA X (e :: es) t) (hn : x ≠ "__name__" := by decide) (hdb : (x == ("__debug__" : Str)) = false := by decide)
    (he : starEach (e :: es) X.env = (false, eval e X.env) :: starEach es X.env := by rfl) (hpl : (backTo pos (starEach es X.env)).any (·.1) = false := by rfl) : PE X (.Call (.Name x p) (e :: es) [] pos) (tCB r t) := by
  intro pins s σ H Q I h
  refine wpAny_Call_Name_kw (ld_blt I hg hm hv ?_ hn hdb)
  exact PyProof.Rows.callWith_type1 (thn (ha pos pins s σ H _ I h) fun us s1 ⟨vs, H1, I1, r1, q1⟩ => hc pins s1 σ H1 vs us Q I1 r1 q1) he hpl
end
end L2

namespace HT
open PySem PyProof.Rows

/-- t < u of tuples of ints -/
def lexLt : List Int → List Int → Bool
  | [], [] => false
  | [], _ :: _ => true
  | _ :: _, [] => false
  | x :: xs, y :: ys => if x = y then lexLt xs ys else decide (x < y)
theorem lexLt_cons (x y : Int) (xs ys : List Int) : lexLt (x :: xs) (y :: ys) = if x = y then lexLt xs ys else decide (x < y) := rfl
theorem lexLt_nil_nil : lexLt [] [] = false := rfl
theorem lexLt_nil_cons (y : Int) (ys : List Int) : lexLt [] (y :: ys) = true := rfl
theorem lexLt_cons_nil (x : Int) (xs : List Int) : lexLt (x :: xs) [] = false := rfl

section
open PySem.SeqAt
open PySem.AutoSeq1 (wpAny_loadPart')
open PySem.MeetsSeq PySem.MeetsSeq2 PySem.MeetsSeq3

end

section
variable {prog : Program} {w : World} {A : Around} {E : Value → Shared → Prop} {s : Shared}

/-! ### t[a:b], not the whole -/
/-- a slice's bound as a place among n (d where it is left out) -/
def sIx (n d : Nat) : Option Int → Nat
  | none => d
  | some v => if v < 0 then (v + (n : Int)).toNat else min v.toNat n
theorem sIx_none (n d : Nat) : sIx n d none = d := rfl
theorem sIx_nat (n d k : Nat) : sIx n d (some (k : Int)) = min k n := by
  show (if (k : Int) < 0 then ((k : Int) + (n : Int)).toNat else min (k : Int).toNat n) = min k n
  rw [if_neg (by omega), Int.toNat_natCast]
end
end HT

namespace L2
open PySem PySem.Spec PyProof.Rows

/-! ### the parts of a slice -/
abbrev TO := St → Hp → (Option Int → Hp → Prop) → Prop
/-- a slice's part (left out, or an int) -/
def PO (X : Cx) (e : Option Expr) (t : TO) : Prop :=
  ∀ (pins : List (Addr × Obj)) (s : Shared) (σ : St) (H : Hp) (Q : Option Int → Hp → Prop), Inv X pins σ H s → t σ H Q →
    wpAny (model X.prog X.w) X.A (evalPart e X.env) (fun u s' => ∃ o H', Inv X pins σ H' s' ∧ IsPart u o ∧ Q o H') X.xe s
def tNoPart : TO := fun _ H Q => Q none H
def tPart (t : TE) : TO := fun σ H Q => t σ H fun x H1 => ∃ i, x = .int i ∧ Q (some i) H1

theorem intsAre_of {ns : List Int} : ∀ {us : List Value}, Vals (ns.map V.int) us → IntsAre us ns := by
  induction ns with
  | nil => intro us r; rw [List.map_nil] at r; cases r; exact .nil
  | cons n ns ih =>
    intro us r
    rw [List.map_cons] at r
    cases r with
    | cons r1 r2 =>
      obtain ⟨t, e⟩ := r1
      subst e
      exact .cons n t (ih r2)

section
variable {X : Cx} {e : Expr} {te : TE} {lo hi : Option Expr} {tl th : TO} {pos p2 : Pos}

theorem po_none : PO X none tNoPart := by
  intro pins s σ H Q I h
  rw [evalPart_none]
  exact wpAny_pure ⟨none, H, I, .none, h⟩
theorem po_some (h : PE X e te) : PO X (some e) (tPart te) := by
  intro pins s σ H Q I hw
  rw [evalPart_some]
  refine thn (h pins s σ H _ I hw) fun u s1 ⟨x, H1, I1, r1, q1⟩ => ?_
  obtain ⟨i, rfl, q⟩ := q1
  obtain ⟨t, rfl⟩ := r1
  exact ⟨some i, H1, I1, .int i t, q⟩

/-- what a slice of a value is, by values: the slice object stands at sl -/
def SlR (X : Cx) (r : V → Option Int → Option Int → Hp → VK → Prop) : Prop :=
  ∀ (pins : List (Addr × Obj)) (s : Shared) (σ : St) (H : Hp) (x : V) (v vl vu : Value) (lo hi : Option Int) (sl : Addr) (Q : VK), Inv X pins σ H s → RelV x v → s.heap.IsSliceOf sl vl vu .none → IsPart vl lo → IsPart vu hi → r x lo hi H Q →
    ∃ T id, typeLookup (.type T) "__getitem__" = pure (some (.builtin id)) ∧ s.TypeIs v T ∧ wpAny (model X.prog X.w) X.A (getItem v (.ref sl)) (EP X pins σ Q) X.xe s
def tSl (r : V → Option Int → Option Int → Hp → VK → Prop) (te : TE) (tl th : TO) : TE := fun σ H Q => te σ H fun x H1 => tl σ H1 fun l H2 => th σ H2 fun u H3 => r x l u H3 Q
/-- a[lo:hi], any a -/
theorem pe_slice {r : V → Option Int → Option Int → Hp → VK → Prop} (hr : SlR X r) (he : PE X e te) (hl : PO X lo tl) (hu : PO X hi th) : PE X (.Subscript e (.Slice lo hi none p2) pos) (tSl r te tl th) := by
  intro pins s σ H Q I h
  refine Subscript_ (thn (he pins s σ H _ I h) fun v s1 ⟨x, H1, I1, r1, q1⟩ => ?_)
  refine wpAny_Slice (thn (hl pins s1 σ H1 _ I1 q1) fun vl s2 ⟨l, H2, I2, pl, q2⟩ => thn (hu pins s2 σ H2 _ I2 q2) fun vu s3 ⟨u, H3, I3, pu, q3⟩ => ?_)
  rw [evalPart_none]
  refine wpAny_pure ?_
  have I4 : Inv X pins σ H3 { s3 with heap := s3.heap.push { cls := .type "slice", data := .fields #[vl, vu, .none] } } := I3.kept (t' := s3.toks) fun b ob q => Heap.get?_push_of_some _ q
  obtain ⟨T, id, hT, ht, hg⟩ := hr pins { s3 with heap := s3.heap.push { cls := .type "slice", data := .fields #[vl, vu, .none] } } σ H3 x v vl vu l u s3.heap.objs.size Q I4 r1 (Heap.IsSliceOf.new ..) pl pu q3
  show wpAny (model X.prog X.w) X.A (subscriptTail e (.Slice lo hi none p2) v (.ref s3.heap.objs.size)) (EP X pins σ Q) X.xe { s3 with heap := s3.heap.push { cls := .type "slice", data := .fields #[vl, vu, .none] } }
  exact tail_any (ops := [.ref s3.heap.objs.size, v]) ht hT hg (by with_unfolding_all rfl)

/-- the items of xs[lo:hi] -/
def cutV (xs : List V) (lo hi : Option Int) : List V := (xs.drop (HT.sIx xs.length 0 lo)).take (HT.sIx xs.length xs.length hi - HT.sIx xs.length 0 lo)
theorem cutV_length (xs : List V) (lo hi : Option Int) : (cutV xs lo hi).length ≤ xs.length := by
  unfold cutV
  rw [List.length_take, List.length_drop]
  omega
/-- t[lo:hi], not the whole of it (the whole would be t itself) -/
def rSlT (K : PySem.W.Frag) : V → Option Int → Option Int → Hp → VK → Prop := fun x lo hi H Q => ∃ a xs, x = .ref a ∧ SqT K H a xs ∧
  ¬ (HT.sIx xs.length 0 lo = 0 ∧ HT.sIx xs.length xs.length hi = xs.length) ∧ ∀ p, H p = none → Q (.ref p) (upd H p (.tup (cutV xs lo hi)))
/-! ### t < u, t + u -/
def rLtT (K : PySem.W.Frag) : R2 := fun x y H Q => ∃ a b ns ms, x = .ref a ∧ y = .ref b ∧ SqT K H a (ns.map V.int) ∧ SqT K H b (ms.map V.int) ∧ Q (.bl (HT.lexLt ns ms)) H
/-- t + u, t not empty: u empty gives t itself -/
def rCatT (K : PySem.W.Frag) : R2 := fun x y H Q => ∃ a b xs ys, x = .ref a ∧ y = .ref b ∧ SqT K H a xs ∧ SqT K H b ys ∧ xs ≠ [] ∧ xs.length + ys.length ≤ sizeLine ∧
  (ys = [] → Q (.ref a) H) ∧ (ys ≠ [] → ∀ p, H p = none → Q (.ref p) (upd H p (.tup (xs ++ ys))))
end
end L2

namespace L2
open PySem PySem.Spec PyProof.Rows

/-! ### places -/
/-- the place that an index of any sign means -/
def ixN (n : Nat) (i : Int) : Option Nat := if 0 ≤ i then (if i < n then some i.toNat else none) else if -(n : Int) ≤ i then some (i + n).toNat else none
def atI {α : Type} (xs : List α) (i : Int) : Option α := (ixN xs.length i).bind fun j => xs[j]?
theorem ixN_seq {n : Nat} {i : Int} {j : Nat} (h : ixN n i = some j) : seqIndex? i n = some j ∧ j < n ∧ -(n : Int) ≤ i ∧ i < n := by
  unfold ixN at h
  by_cases h0 : 0 ≤ i
  · rw [if_pos h0] at h
    by_cases h1 : i < n
    · rw [if_pos h1] at h
      have e : i.toNat = j := Option.some.inj h
      exact ⟨by rw [seqIndex_of h0 h1, e], by omega, by omega, h1⟩
    · rw [if_neg h1] at h; cases h
  · rw [if_neg h0] at h
    by_cases h1 : -(n : Int) ≤ i
    · rw [if_pos h1] at h
      have e : (i + n).toNat = j := Option.some.inj h
      exact ⟨by rw [seqIndex_neg (by omega) h1, e], by omega, h1, by omega⟩
    · rw [if_neg h1] at h; cases h
theorem atI_get {α : Type} {xs : List α} {i : Int} {v : α} (h : atI xs i = some v) : ∃ j, seqIndex? i xs.length = some j ∧ xs[j]? = some v ∧ j < xs.length ∧ -(xs.length : Int) ≤ i ∧ i < xs.length := by
  unfold atI at h
  cases e : ixN xs.length i with
  | none => rw [e] at h; cases h
  | some j =>
    rw [e] at h
    obtain ⟨h1, h2, h3, h4⟩ := ixN_seq e
    exact ⟨j, h1, h, h2, h3, h4⟩
theorem atI_nat {α : Type} {xs : List α} {j : Nat} {v : α} (h : xs[j]? = some v) : atI xs (j : Int) = some v := by
  have hj : j < xs.length := (List.getElem?_eq_some_iff.mp h).1
  have e : ixN xs.length (j : Int) = some j := by
    unfold ixN
    rw [if_pos (by omega), if_pos (by omega)]; simp
  unfold atI; rw [e]; exact h
/-! ### what may be subscripted -/
/-- what stands as an index of a plain subscript -/
def PlainIx (b : Expr) : Prop := ∀ o i, subscripted b false o i = operate [o, i] (getItem o i)
/-- a subscript by values -/
def IxR (X : Cx) (r : R2) : Prop :=
  ∀ (value slice : Expr) (pins : List (Addr × Obj)) (s : Shared) (σ : St) (H : Hp) (x y : V) (v u : Value) (Q : VK), Inv X pins σ H s → RelV x v → RelV y u → r x y H Q →
    subscripted slice false v u = operate [v, u] (getItem v u) → wpAny (model X.prog X.w) X.A (subscriptTail value slice v u) (EP X pins σ Q) X.xe s
/-- a call of a builtin's method by values: the receiver, the arguments -/
def MtR (X : Cx) (id : String) (r : V → List V → Hp → VK → Prop) : Prop :=
  ∀ (pins : List (Addr × Obj)) (s : Shared) (σ : St) (H : Hp) (x : V) (xs : List V) (v : Value) (us : List Value) (Q : VK), Inv X pins σ H s → RelV x v → Vals xs us → r x xs H Q →
    wpAny (model X.prog X.w) X.A (call (.builtin id) (v :: us)) (EP X pins σ Q) X.xe s
section
variable {X : Cx} {a b : Expr} {ta tb : TE} {pos : Pos}
/-- a[b] -/
theorem pe_ix {r : R2} (hr : IxR X r) (ha : PE X a ta) (hb : PE X b tb) (hs : PlainIx b) : PE X (.Subscript a b pos) (tOp r ta tb) := by
  intro pins s σ H Q I h
  exact Subscript_ (binT ha hb I h fun v u s2 x y H2 I2 rx ry q => hr a b pins s2 σ H2 x y v u Q I2 rx ry q (hs _ _))

def rIxL (K : PySem.W.Frag) : R2 := fun x y H Q => ∃ p xs i v, x = .ref p ∧ y = .int i ∧ SqL K H p xs ∧ atI xs i = some v ∧ Q v H
def rIxT (K : PySem.W.Frag) : R2 := fun x y H Q => ∃ p xs i v, x = .ref p ∧ y = .int i ∧ SqT K H p xs ∧ atI xs i = some v ∧ Q v H
def rIxS : R2 := fun x y H Q => ∃ z i c, x = .str z ∧ y = .int i ∧ z.length ≤ sizeLine ∧ atI z.cps.toList i = some c ∧ Q (.str ⟨#[c]⟩) H
theorem ix_list : IxR X (rIxL X.K) := by
  intro value slice pins s σ H x y v u Q I rx ry h hs
  obtain ⟨p, xs, i, z, rfl, rfl, hq, he, q⟩ := h
  cases rx
  obtain ⟨t, rfl⟩ := ry
  obtain ⟨its, r, pl, hz⟩ := I.list hq
  obtain ⟨j, h1, h2, h3, h4, h5⟩ := atI_get he
  obtain ⟨w, ew, rw'⟩ := r.get h2
  have hl := r.length
  have hn := line63
  have fin : EP X pins σ Q w s := ⟨z, H, I, rw', q⟩
  by_cases h0 : 0 ≤ i
  · have hj : i.toNat = j := by
      rw [seqIndex_of h0 h5] at h1
      exact Option.some.inj h1
    exact item_listR pl.isList h0 (by omega) (by rw [hj]; simpa using ew) fin hs
  · have hj : (i + (its.toArray.size : Int)).toNat = j := by
      rw [seqIndex_neg (by omega) h4] at h1
      rw [List.size_toArray, ← hl]
      exact Option.some.inj h1
    exact subscriptTail_builtinR (x := w) pl.isList.typeIs slot_list_getitem.lookup
      (wpAny_getItem_list_neg (Q := fun r s' => r = w ∧ EP X pins σ Q r s') pl.isList (by omega) (by rw [List.size_toArray] <;> omega) (by omega) (by rw [hj]; simpa using ew) ⟨rfl, fin⟩) hs
theorem ix_tup : IxR X (rIxT X.K) := by
  intro value slice pins s σ H x y v u Q I rx ry h hs
  obtain ⟨p, xs, i, z, rfl, rfl, hq, he, q⟩ := h
  cases rx
  obtain ⟨t, rfl⟩ := ry
  obtain ⟨its, r, pl, hz⟩ := I.tuple hq
  obtain ⟨j, h1, h2, h3, h4, h5⟩ := atI_get he
  obtain ⟨w, ew, rw'⟩ := r.get h2
  have hl := r.length
  have hn := line63
  have fin : EP X pins σ Q w s := ⟨z, H, I, rw', q⟩
  exact subscriptTail_builtinR (x := w) pl.typeIs slot_tuple_getitem.lookup
    (getItem_tuple (j := j) (Q := fun r s' => r = w ∧ EP X pins σ Q r s') pl (by omega) (by omega) (by rw [List.size_toArray, ← hl]; exact h1) (by simpa using ew) ⟨rfl, fin⟩) hs
theorem ix_str : IxR X rIxS := by
  intro value slice pins s σ H x y v u Q I rx ry h hs
  obtain ⟨z, i, c, rfl, rfl, hz, he, q⟩ := h
  obtain ⟨t, rfl⟩ := rx
  obtain ⟨t', rfl⟩ := ry
  obtain ⟨j, h1, h2, h3, h4, h5⟩ := atI_get he
  have hl : z.cps.toList.length = z.length := by simp [Str.length]
  rw [hl] at h1 h4 h5
  have hn := line63
  exact tail_any (typeIs_str s z t) slot_str_getitem.lookup (getItem_str (c := c) (by
    have e1 : decide (i < -(2 ^ 63 : Int)) = false := decide_eq_false (by omega)
    have e2 : decide (i ≥ 2 ^ 63) = false := decide_eq_false (by omega)
    rw [e1, e2, Bool.or_false]) (by rw [h1]; simpa using h2) ⟨.str ⟨#[c]⟩, H, I.tok _, ⟨_, rfl⟩, q⟩) hs
/-- list, tuple or str -/
def rIx (K : PySem.W.Frag) : R2 := fun x y H Q => rIxL K x y H Q ∨ rIxT K x y H Q ∨ rIxS x y H Q
/-! ### xs[i] = v, any sign -/
/-- the list's object behind a store -/
theorem mapSeq_set (its : List Value) (n j : Nat) (u : Value) : Obj.mapSeq (·.setIfInBounds j u) { cls := .type "list", data := .seq its.toArray n } = { cls := .type "list", data := .seq (its.set j u).toArray n } := by
  simp [Obj.mapSeq]
theorem Inv.lst {pins : List (Addr × Obj)} {σ : St} {H : Hp} {s : Shared} {p : Addr} {xs : List V} (I : Inv X pins σ H s) (h : H p = some (.lst xs)) :
    ∃ (its : List Value) (n : Nat), Vals xs its ∧ s.heap.get? p = some { cls := .type "list", data := .seq its.toArray n } ∧ xs.length ≤ sizeLine := by
  obtain ⟨z, its, n, r, e⟩ := I.hok p _ h
  exact ⟨its, n, r, e, z⟩
/-- the list at p is written by an update of its object -/
theorem Inv.lstUpd {pins : List (Addr × Obj)} {σ : St} {H : Hp} {s : Shared} {p : Addr} {xs ys : List V} {its its' : List Value} {n n' : Nat} {f : Obj → Obj} (I : Inv X pins σ H s) (h : H p = some (.lst xs))
    (ho : s.heap.get? p = some { cls := .type "list", data := .seq its.toArray n }) (hf : f { cls := .type "list", data := .seq its.toArray n } = { cls := .type "list", data := .seq its'.toArray n' }) (r : Vals ys its') (hz : ys.length ≤ sizeLine) (t : Nat) :
    Inv X pins σ (upd H p (.lst ys)) { s with heap := s.heap.update p f, toks := t } := by
  have e : (s.heap.update p f).get? p = some { cls := .type "list", data := .seq its'.toArray n' } := by
    rw [Heap.get?_update_self f ho (by rw [hf] <;> rfl), hf]
  refine I.write (x := p) (e := p) (by rw [h]; trivial) (.inl rfl) (fun b u hb q => (Heap.get?_update_other _ _ (Ne.symm hb)).trans q) ⟨_, e⟩ ?_
  exact ⟨hz, its', n', r, e⟩
def rSetL : V → V → V → Hp → (Hp → Prop) → Prop := fun o i v H Q => ∃ p xs k j, o = .ref p ∧ i = .int k ∧ H p = some (.lst xs) ∧ ixN xs.length k = some j ∧ Q (upd H p (.lst (xs.set j v)))
theorem set_list : PSet X rSetL := by
  intro pins s σ H o i v ov iv u Q I ro ri rv h
  obtain ⟨p, xs, k, j, rfl, rfl, hp, hj, q⟩ := h
  cases ro
  obtain ⟨t, rfl⟩ := ri
  obtain ⟨its, n, r, ho, hz⟩ := I.lst hp
  obtain ⟨h1, h2, h3, h4⟩ := ixN_seq hj
  have hl := r.length
  have hn := line63
  have I' : Inv X pins σ (upd H p (.lst (xs.set j v))) { s with heap := s.heap.update p (Obj.mapSeq (·.setIfInBounds j u)) } :=
    I.lstUpd hp ho (mapSeq_set its n j u) (r.set rv j) (by rw [List.length_set]; exact hz) s.toks
  by_cases h0 : 0 ≤ k
  · have hk : k.toNat = j := by
      rw [seqIndex_of h0 h4] at h1
      exact Option.some.inj h1
    exact PySem.W.ki_setAt ho h0 (by omega) (by rw [List.size_toArray, ← hl]; exact h4) (by rw [hk]; exact ⟨_, I', q⟩)
  · have hk : (k + (its.toArray.size : Int)).toNat = j := by
      rw [seqIndex_neg (by omega) h3] at h1
      rw [List.size_toArray, ← hl]
      exact Option.some.inj h1
    exact PySem.W.ki_setBack ho (by omega) (by rw [List.size_toArray, ← hl]; exact h3) (by omega) (by rw [hk]; exact ⟨_, I', q⟩)

/-! ### slices -/
theorem slice_bounds (lo hi : Option Int) (n : Nat) : (sliceBounds lo hi none n).1 = ((HT.sIx n 0 lo : Nat) : Int) ∧ (sliceBounds lo hi none n).2.1 = ((HT.sIx n n hi : Nat) : Int) ∧ (sliceBounds lo hi none n).2.2 = 1 := by
  refine ⟨?_, ?_, rfl⟩
  · cases lo with
    | none => simp [sliceBounds, HT.sIx]
    | some i =>
      simp only [sliceBounds, HT.sIx, Option.getD_none, show (1 : Int) > 0 by decide, if_true]
      by_cases h : i < 0
      · simp only [h, if_true] <;> omega
      · simp only [h, if_false] <;> omega
  · cases hi with
    | none => simp [sliceBounds, HT.sIx]
    | some i =>
      simp only [sliceBounds, HT.sIx, Option.getD_none, show (1 : Int) > 0 by decide, if_true]
      by_cases h : i < 0
      · simp only [h, if_true] <;> omega
      · simp only [h, if_false] <;> omega
theorem slicePick_cut (its : List Value) (lo hi : Option Int) : slicePick its.toArray lo hi none = ((its.drop (HT.sIx its.length 0 lo)).take (HT.sIx its.length its.length hi - HT.sIx its.length 0 lo)).toArray := by
  obtain ⟨h1, h2, h3⟩ := slice_bounds lo hi its.toArray.size
  unfold slicePick
  rw [h1, h2, h3]
  simp only [sliceRange_one, pick_run, List.size_toArray] <;> rfl
/-- xs[lo:hi] of a list: a new list -/
def rSlL (K : PySem.W.Frag) : V → Option Int → Option Int → Hp → VK → Prop := fun x lo hi H Q => ∃ a xs, x = .ref a ∧ SqL K H a xs ∧ ∀ p, H p = none → Q (.ref p) (upd H p (.lst (cutV xs lo hi)))
theorem sl_list : SlR X (rSlL X.K) := by
  intro pins s σ H x v vl vu lo hi sl Q I rx hs pl pu h
  obtain ⟨a, xs, rfl, hx, q⟩ := h
  cases rx
  obtain ⟨its, r, ht, hz⟩ := I.list hx
  have hlen := r.length
  refine ⟨"list", _, slot_list_getitem.lookup, ht.isList.typeIs, ?_⟩
  refine wpAny_getItem_list_slice ht.isList hs pl pu .none (by simp) ?_ (by rw [List.size_toArray] <;> omega)
  rw [slicePick_cut, ← hlen]
  refine ⟨.ref s.heap.objs.size, _, I.laid (t' := s.toks) (o := .lst (cutV xs lo hi)) (fun b ob q => Heap.get?_push_of_some _ q) (Nat.le_refl _) ?_, rfl, q _ (I.hok.fresh (Nat.le_refl _))⟩
  exact ⟨Nat.le_trans (cutV_length xs lo hi) hz, _, 0, (r.drop (HT.sIx xs.length 0 lo)).take (HT.sIx xs.length xs.length hi - HT.sIx xs.length 0 lo), Heap.get?_push_size _ rfl⟩

/-! ### in, not in: flat items -/
def flatV : V → Bool
  | .non => true
  | .bl _ => true
  | .int _ => true
  | .str _ => true
  | _ => false
/-- == of flat values -/
def eqV : V → V → Bool
  | .non, .non => true
  | .bl a, .bl b => a == b
  | .bl a, .int b => (if a then 1 else 0) == b
  | .int a, .bl b => a == (if b then 1 else 0)
  | .int a, .int b => a == b
  | .str a, .str b => a == b
  | _, _ => false
theorem eqAt_V {A : Around} {s : Shared} {y x : V} {u v : Value} (ry : RelV y u) (rx : RelV x v) (fy : flatV y = true) (fx : flatV x = true) : SeqAt.EqAt A s u v (eqV y x) := by
  cases y with
  | non =>
    cases ry
    cases x with
    | non => cases rx; exact SeqAt.EqAt.same _
    | bl b => cases rx; exact SeqAt.EqAt.none_bool b
    | int b => obtain ⟨t, rfl⟩ := rx; exact SeqAt.EqAt.none_int b t
    | str b => obtain ⟨t, rfl⟩ := rx; exact SeqAt.EqAt.none_str b t
    | _ => exact absurd (show false = true from fx) Bool.false_ne_true
  | bl a =>
    cases ry
    cases x with
    | non => cases rx; exact SeqAt.EqAt.bool_none a
    | bl b => cases rx; exact SeqAt.EqAt.bool_bool a b
    | int b => obtain ⟨t, rfl⟩ := rx; exact SeqAt.EqAt.bool_int a b t
    | str b => obtain ⟨t, rfl⟩ := rx; exact SeqAt.EqAt.bool_str a b t
    | _ => exact absurd (show false = true from fx) Bool.false_ne_true
  | int a =>
    obtain ⟨t', rfl⟩ := ry
    cases x with
    | non => cases rx; exact SeqAt.EqAt.int_none a t'
    | bl b => cases rx; exact SeqAt.EqAt.int_bool a t' b
    | int b => obtain ⟨t, rfl⟩ := rx; exact SeqAt.EqAt.int_int a t' b t
    | str b => obtain ⟨t, rfl⟩ := rx; exact SeqAt.EqAt.int_str a t' b t
    | _ => exact absurd (show false = true from fx) Bool.false_ne_true
  | str a =>
    obtain ⟨t', rfl⟩ := ry
    cases x with
    | non => cases rx; exact SeqAt.EqAt.str_none a t'
    | bl b => cases rx; exact SeqAt.EqAt.str_bool a t' b
    | int b => obtain ⟨t, rfl⟩ := rx; exact SeqAt.EqAt.str_int a t' b t
    | str b => obtain ⟨t, rfl⟩ := rx; exact SeqAt.EqAt.str_str a t' b t
    | _ => exact absurd (show false = true from fx) Bool.false_ne_true
  | _ => exact absurd (show false = true from fy) Bool.false_ne_true
/-- the items' answers, read off the values (a value's own answer does not lean on its token) -/
def eqU (x : V) (u : Value) : Bool := match u with
  | .none => eqV .non x
  | .bool b => eqV (.bl b) x
  | .int i _ => eqV (.int i) x
  | .str z _ => eqV (.str z) x
  | _ => false
theorem eqU_of {x y : V} {u : Value} (r : RelV y u) (f : flatV y = true) : eqU x u = eqV y x := by
  cases y with
  | non => cases r; rfl
  | bl b => cases r; rfl
  | int i => obtain ⟨t, rfl⟩ := r; rfl
  | str z => obtain ⟨t, rfl⟩ := r; rfl
  | _ => exact absurd (show false = true from f) Bool.false_ne_true
theorem any_eqU {x : V} : ∀ {xs : List V} {us : List Value}, Vals xs us → xs.all flatV = true → us.any (eqU x) = xs.any fun y => eqV y x
  | _, _, .nil, _ => rfl
  | y :: xs, u :: us, .cons r t, f => by
    rw [List.all_cons, Bool.and_eq_true] at f
    rw [List.any_cons, List.any_cons, eqU_of r f.1, any_eqU t f.2]
theorem mem_eqAt {A : Around} {s : Shared} {x : V} {v : Value} (rx : RelV x v) (fx : flatV x = true) : ∀ {xs : List V} {us : List Value}, Vals xs us → xs.all flatV = true → ∀ u ∈ us, SeqAt.EqAt A s u v (eqU x u)
  | _, _, .nil, _ => fun u hu => by cases hu
  | y :: xs, u :: us, .cons r t, f => fun u' hu => by
    rw [List.all_cons, Bool.and_eq_true] at f
    rcases List.mem_cons.mp hu with rfl | hu
    · rw [eqU_of r f.1]; exact eqAt_V r rx f.1 fx
    · exact mem_eqAt rx fx t f.2 u' hu
def inV (x : V) (xs : List V) : Bool := xs.any fun y => eqV y x
/-- x in a list or tuple of flat items -/
def rIn (K : PySem.W.Frag) (neg : Bool) : R2 := fun x y H Q => ∃ p xs, y = .ref p ∧ (SqL K H p xs ∨ SqT K H p xs) ∧ flatV x = true ∧ xs.all flatV = true ∧ Q (.bl (if neg then !inV x xs else inV x xs)) H
theorem op_notIn_seq : OpR X (compareOp .NotIn) (rIn X.K true) := by
  intro pins s σ H x y v u Q I rx ry h
  obtain ⟨p, xs, rfl, hq, fx, fs, q⟩ := h
  cases ry
  rcases hq with hq | hq
  · obtain ⟨its, r, pl, hz⟩ := I.list hq
    refine SeqAt.notIn_listAt (eqU x) pl.isList (fun w hw => mem_eqAt rx fx r fs w (by simpa using hw)) ⟨.bl _, H, I, rfl, ?_⟩
    rw [show its.toArray.any (eqU x) = its.any (eqU x) by simp, any_eqU r fs]
    exact q
  · obtain ⟨its, r, pl, hz⟩ := I.tuple hq
    refine SeqAt.notIn_tupleAt (eqU x) pl (fun w hw => mem_eqAt rx fx r fs w (by simpa using hw)) ⟨.bl _, H, I, rfl, ?_⟩
    rw [show its.toArray.any (eqU x) = its.any (eqU x) by simp, any_eqU r fs]
    exact q
/-! ### len, list(x), tuple(x) of any list or tuple that is read -/
theorem call_len_seq : CallR X (.builtin "len") (fun xs H Q => ∃ p ys, xs = [.ref p] ∧ (SqL X.K H p ys ∨ SqT X.K H p ys) ∧ Q (.int ys.length) H) := by
  intro pins s σ H xs us Q I r h
  obtain ⟨p, ys, rfl, hq, q⟩ := h
  obtain ⟨u, rfl, rx⟩ := vals1 r
  cases rx
  have hn := line63
  rcases hq with hq | hq
  · obtain ⟨its, r', pl, hz⟩ := I.list hq
    have hlen := r'.length
    exact Calls.call_len_list pl.isList (by simp only [List.size_toArray] <;> omega) ⟨.int ys.length, H, I.tok _, ⟨s.toks + 1, by rw [List.size_toArray, hlen]⟩, q⟩
  · obtain ⟨its, r', pl, hz⟩ := I.tuple hq
    have hlen := r'.length
    exact len_tuple pl (by simp only [List.size_toArray] <;> omega) ⟨.int ys.length, H, I.tok _, ⟨s.toks + 1, by rw [List.size_toArray, hlen]⟩, q⟩
theorem call_len_str : CallR X (.builtin "len") (fun xs H Q => ∃ z, xs = [.str z] ∧ z.length ≤ sizeLine ∧ Q (.int z.length) H) := by
  intro pins s σ H xs us Q I r h
  obtain ⟨z, rfl, hz, q⟩ := h
  obtain ⟨u, rfl, t, rfl⟩ := vals1 r
  have hn := line63
  exact len_str (by omega) ⟨.int z.length, H, I.tok _, ⟨_, rfl⟩, q⟩
/-! ### the call of a builtin's method: o.m(..) -/
/-- the value is of that builtin type -/
def tyV (K : PySem.W.Frag) (T : String) (x : V) (H : Hp) : Prop := match x with
  | .str _ => T = "str"
  | .int _ => T = "int"
  | .ref p => (T = "list" ∧ ∃ xs, SqL K H p xs) ∨ (T = "tuple" ∧ ∃ o, K.lookup p = some o ∧ o.cls = .type "tuple" ∧ o.dict = none) ∨
      (T = "dict" ∧ ((∃ kvs, H p = some (.dK kvs)) ∨ ∃ kvs, H p = some (.dT kvs))) ∨ (T = "set" ∧ ∃ S n, H p = some (.set S n))
  | _ => False
theorem tyV_is {pins : List (Addr × Obj)} {σ : St} {H : Hp} {s : Shared} {T : String} {x : V} {v : Value} (I : Inv X pins σ H s) (r : RelV x v) (ty : tyV X.K T x H) :
    s.TypeIs v T ∧ ∀ a, v = .ref a → ∃ ob, s.heap.get? a = some ob ∧ ob.dict = none := by
  cases x with
  | str z =>
    obtain ⟨t, rfl⟩ := r
    cases (show T = "str" from ty)
    exact ⟨typeIs_str s z t, fun _ e => nomatch e⟩
  | int i =>
    obtain ⟨t, rfl⟩ := r
    cases (show T = "int" from ty)
    exact ⟨typeIs_int s i t, fun _ e => nomatch e⟩
  | ref p =>
    cases r
    rcases ty with ⟨rfl, xs, hq⟩ | ⟨rfl, o, hk, hc, hd⟩ | ⟨rfl, hk⟩ | ⟨rfl, S, n, hk⟩
    · obtain ⟨its, _, pl, _⟩ := I.list hq
      refine ⟨pl.isList.typeIs, fun a e => ?_⟩
      cases e
      obtain ⟨o, n, e, c, hd, _⟩ := pl
      exact ⟨o, e, hd⟩
    · refine ⟨⟨o, I.kIn p o hk, hc⟩, fun a e => ?_⟩
      cases e
      exact ⟨o, I.kIn _ o hk, hd⟩
    · have z : ∃ o, s.heap.get? p = some o ∧ o.ExactDict := by
        rcases hk with ⟨kvs, hk⟩ | ⟨kvs, hk⟩
        · obtain ⟨_, _, _, _, o, _, _, e, ex, _⟩ := I.hok p _ hk
          exact ⟨o, e, ex⟩
        · obtain ⟨_, _, _, _, o, _, _, e, ex, _⟩ := I.hok p _ hk
          exact ⟨o, e, ex⟩
      obtain ⟨o, e, ex⟩ := z
      refine ⟨⟨o, e, ex.1⟩, fun a e2 => ?_⟩
      cases e2
      exact ⟨o, e, ex.2.1⟩
    · obtain ⟨o, _, _, _, e, ex, _⟩ := I.hok p _ hk
      refine ⟨⟨o, e, ex.1⟩, fun a e2 => ?_⟩
      cases e2
      exact ⟨o, e, ex.2.1⟩
  | _ => exact False.elim ty
def tBM0 (K : PySem.W.Frag) (T : String) (r : V → List V → Hp → VK → Prop) (to : TE) : TE := fun σ H Q => to σ H fun x H1 => tyV K T x H1 ∧ r x [] H1 Q
def tBM (K : PySem.W.Frag) (T : String) (r : V → List V → Hp → VK → Prop) (to : TE) (t : TA) : TE := fun σ H Q => to σ H fun x H1 => tyV K T x H1 ∧ t σ H1 fun xs H2 => r x xs H2 Q
variable {o e : Expr} {es : List Expr} {to : TE} {t : TA} {name : Str} {apos cpos : Pos} {T id : String} {r : V → List V → Hp → VK → Prop}
theorem pe_bm (pa : PlainAttrs T) (slot : Slot T name id) (hty : typeOf (.builtin id) = pure (.type "method_descriptor")) (hm : MtR X id r) (ho : PE X o to) (ha : PA X (e :: es) t)
    (hbase : attributeBase o name X.env (eval o X.env) = eval o X.env := by rfl)
    (hfew : ((backTo cpos (starEach (e :: es) X.env)).all (fun x => !x.1) && (backToKw cpos (keywordEach [] X.env)).all (fun x => x.1.isSome)
      && decide ((e :: es).length + ([] : List Keyword).length + (if ([] : List Keyword).isEmpty then 0 else 1) < 30)) = true := by rfl)
    (hline : (apos.endLine == cpos.line) = true := by rfl) (hs : starEach (e :: es) X.env = (false, eval e X.env) :: starEach es X.env := by rfl) (hplain : (backTo cpos (starEach es X.env)).any (·.1) = false := by rfl) :
    PE X (.Call (.Attribute o name apos) (e :: es) [] cpos) (tBM X.K T r to t) := by
  intro pins s σ H Q I h
  refine wpAny_Call_method_late hbase hfew hline rfl (thn (ho pins s σ H _ I h) fun v s1 ⟨x, H1, I1, r1, ty, q1⟩ => ?_)
  obtain ⟨h1, h2⟩ := tyV_is I1 r1 ty
  refine ⟨T, id, pa, slot, hty, h1, h2, ?_⟩
  have hA := ha cpos pins s1 σ H1 _ I1 q1
  rw [hs] at hA ⊢
  refine Calls.callWith_builtin (by show (false || (backTo cpos (starEach es X.env)).any (·.1)) = false; rw [hplain] <;> rfl) (Calls.evalArgs_plain ?_)
  exact thn hA fun us s2 ⟨vs, H2, I2, r2, q2⟩ => hm pins s2 σ H2 x vs v us Q I2 r1 r2 q2
/- xs.append(e), list.index on a module's tuple .. are MtR facts of 06m -/
end
end L2

namespace L2
open PySem PySem.Spec PyProof.Rows

def MtM (X : Cx) (id : String) (r : V → List V → Hp → VK → Prop) : Prop :=
  ∀ (pins : List (Addr × Obj)) (s : Shared) (σ : St) (H : Hp) (x : V) (xs : List V) (v : Value) (us : List Value) (Q : VK), Inv X pins σ H s → RelV x v → Vals xs us → r x xs H Q →
    wpAny (model X.prog X.w) X.A (call (.builtin id) (v :: us)) (EP X pins σ Q) X.xe s

/-! ### lists of values -/
theorem Vals.one : ∀ {x : V} {us : List Value}, Vals [x] us → ∃ u, us = [u] ∧ RelV x u
  | _, _, .cons r .nil => ⟨_, rfl, r⟩
theorem Vals.two : ∀ {x y : V} {us : List Value}, Vals [x, y] us → ∃ u v, us = [u, v] ∧ RelV x u ∧ RelV y v
  | _, _, _, .cons r (.cons q .nil) => ⟨_, _, rfl, r, q⟩
section
variable {X : Cx} {pins : List (Addr × Obj)} {σ : St} {H : Hp} {s : Shared} {l b : Addr} {xs ys zs : List V}

/-! ### the two steps: a tracked list is rewritten, a new list is laid -/
theorem Inv.lset {its its' : List Value} {n : Nat} {f : Array Value → Array Value} {t' : Nat} (I : Inv X pins σ H s) (hH : H l = some (.lst xs))
    (e : s.heap.get? l = some { cls := .type "list", data := .seq its.toArray n }) (hf : f its.toArray = its'.toArray) (hv : Vals ys its') (hz : ys.length ≤ sizeLine) :
    Inv X pins σ (upd H l (.lst ys)) { s with heap := s.heap.update l (Obj.mapSeq f), toks := t' } := by
  have q := PySem.IsL.update e f
  rw [hf] at q
  refine I.write (x := l) (e := l) (by rw [hH]; exact trivial) (.inl rfl) (fun b' u hb hu => (Heap.get?_update_other s.heap (Obj.mapSeq f) (Ne.symm hb)).trans hu) ⟨_, q⟩ ?_
  exact ⟨hz, its', _, hv, q⟩
theorem Inv.lnew {its : List Value} {t' : Nat} (I : Inv X pins σ H s) (hv : Vals ys its) (hz : ys.length ≤ sizeLine) :
    Inv X pins σ (upd H s.heap.objs.size (.lst ys)) { s with heap := s.heap.push { cls := .type "list", data := .seq its.toArray }, toks := t' } :=
  I.laid (fun _ _ q => Heap.get?_push_of_some _ q) (Nat.le_refl _) ⟨hz, its, 0, hv, Heap.get?_push_size _ rfl⟩
theorem Inv.fresh (I : Inv X pins σ H s) : H s.heap.objs.size = none := I.hok.fresh (Nat.le_refl _)
theorem Inv.lstM (I : Inv X pins σ H s) (hH : H l = some (.lst xs)) : xs.length ≤ sizeLine ∧ ∃ (its : List Value) (n : Nat), Vals xs its ∧ xs.length = its.length ∧ s.heap.get? l = some { cls := .type "list", data := .seq its.toArray n } := by
  obtain ⟨z, its, n, r, e⟩ := I.hok l _ hH
  exact ⟨z, its, n, r, r.length, e⟩

end

section
variable {X : Cx}

/-! ### methods -/
def rAppend : V → List V → Hp → VK → Prop := fun x vs H Q => ∃ l xs y, x = .ref l ∧ vs = [y] ∧ H l = some (.lst xs) ∧ xs.length < sizeLine ∧ Q .non (upd H l (.lst (xs ++ [y])))
theorem mt_append : MtM X "list.append" rAppend := by
  intro pins s σ H x vs v us Q I rx rv h
  obtain ⟨l, xs, y, rfl, rfl, hH, hz, q⟩ := h
  cases rx
  obtain ⟨u, rfl, ru⟩ := rv.one
  obtain ⟨z, its, n, r, hl, e⟩ := I.lstM hH
  refine call_meets F.slot_list_append ⟨_, e, rfl⟩ F.entry_list_append (F.args_list_append_2 _ _) (PySem.list_append l its.toArray n u (by rw [List.size_toArray]; omega)) ⟨e, ?_⟩
  refine ⟨.non, _, I.lset (its' := its ++ [u]) hH e (by simp) (r.append (.cons ru .nil)) ?_, rfl, q⟩
  rw [List.length_append, List.length_singleton]
  omega

def rExtend : V → List V → Hp → VK → Prop := fun x vs H Q => ∃ l b xs zs, x = .ref l ∧ vs = [.ref b] ∧ H l = some (.lst xs) ∧ H b = some (.lst zs) ∧ xs.length + zs.length ≤ sizeLine ∧ Q .non (upd H l (.lst (xs ++ zs)))
def rPop : V → List V → Hp → VK → Prop := fun x vs H Q => ∃ l xs y, x = .ref l ∧ vs = [] ∧ H l = some (.lst xs) ∧ xs[xs.length - 1]? = some y ∧ Q y (upd H l (.lst xs.dropLast))
def rPopAt : V → List V → Hp → VK → Prop := fun x vs H Q => ∃ l xs i k y, x = .ref l ∧ vs = [.int i] ∧ H l = some (.lst xs) ∧ -(2 ^ 63) ≤ i ∧ i < 2 ^ 63 ∧ seqIndex? i xs.length = some k ∧ xs[k]? = some y ∧ Q y (upd H l (.lst (xs.eraseIdx k)))
def rReverse : V → List V → Hp → VK → Prop := fun x vs H Q => ∃ l xs, x = .ref l ∧ vs = [] ∧ H l = some (.lst xs) ∧ Q .non (upd H l (.lst xs.reverse))
def rClear : V → List V → Hp → VK → Prop := fun x vs H Q => ∃ l xs, x = .ref l ∧ vs = [] ∧ H l = some (.lst xs) ∧ Q .non (upd H l (.lst []))
/-! ### list + list, list += list, list * int -/
def rCat : R2 := fun x y H Q => ∃ l b xs zs, x = .ref l ∧ y = .ref b ∧ H l = some (.lst xs) ∧ H b = some (.lst zs) ∧ xs.length + zs.length ≤ sizeLine ∧ ∀ p, H p = none → Q (.ref p) (upd H p (.lst (xs ++ zs)))
theorem op_cat : OpR X (binaryOp .Add) rCat := by
  intro pins s σ H x y v u Q I rx ry h
  obtain ⟨l, b, xs, zs, rfl, rfl, hH, hB, hz, q⟩ := h
  cases rx
  cases ry
  obtain ⟨z, its, n, r, hl, e⟩ := I.lstM hH
  obtain ⟨z2, its2, n2, r2, hl2, e2⟩ := I.lstM hB
  refine PySem.P.add_list e e2 ?_ (by rw [List.size_toArray, List.size_toArray]; omega)
  have ea : its.toArray ++ its2.toArray = (its ++ its2).toArray := by simp
  rw [ea]
  exact ⟨.ref _, _, I.lnew (t' := s.toks) (r.append r2) (by rw [List.length_append]; omega), rfl, q _ I.fresh⟩
/-- a list times an int (a negative one is nothing) -/
def rRep : R2 := fun x y H Q => ∃ l k xs, x = .ref l ∧ y = .int k ∧ H l = some (.lst xs) ∧ -(2 ^ 63) ≤ k ∧ k < 2 ^ 63 ∧ xs.length * k.toNat ≤ sizeLine ∧
  ∀ p, H p = none → Q (.ref p) (upd H p (.lst (List.replicate k.toNat xs).flatten))
/-! ### del xs[i] -/
end

/-! ### xs[a:b] = ys -/
section
variable {prog : Program} {w : World} {A : Around} {E : Value → Shared → Prop} {s : Shared}
set_option maxRecDepth 100000 in
end

section
variable {X : Cx}
end
end L2

namespace Att
open PySem PySem.W PySem.Calls PyProof.Rows

/-! ### the script -/
theorem ints_of_wellAll {P : Params} {h : Heap} : ∀ (ns : List Int) (vs : List Value), WellAll P h vs (ns.map WData.int) → IntsAre vs ns := by
  intro ns
  induction ns with
  | nil =>
    intro vs w
    rw [List.map_nil] at w
    cases w
    exact .nil
  | cons n ns ih =>
    intro vs w
    rw [List.map_cons] at w
    cases w with
    | cons a b =>
      cases a
      exact .cons _ _ (ih _ b)

theorem script_of {l : OpenLaw} {n : Nat} (hn : l.most = some n) {P : Params} {h : Heap} {args : List WData} {vals : List Value}
    (hpre : l.row.toRowW.claim.pre args = true) (hwl : WellAll P h vals args) :
    ∃ a vs ns, vals = [Value.ref a] ∧ args = [WData.list (ns.map WData.int)] ∧ h.get? a = some { cls := .type "list", data := .seq vs.toArray } ∧ IntsAre vs ns ∧ ns.length ≤ n := by
  have hsh : WShape.hasAll [] args [.list .int] = true := (pre_splitW hpre).1
  have hc : l.pre.holds [] { args := args } = true := (pre_splitW hpre).2
  obtain ⟨d, r, rfl, h1, h2⟩ := hasAllW_cons hsh
  obtain rfl := hasAllW_nil h2
  obtain ⟨xs, rfl, h3⟩ := hasW_list h1
  obtain ⟨ns, rfl⟩ := items_int h3
  have hlen : ns.length ≤ n := by
    unfold OpenLaw.pre at hc
    have h4 : (WTm.not (.lt (.lit (.int (n : Int))) (.len (.arg 0)))).holds [] { args := [.list (ns.map .int)] } = true := by
      have h4 := (holds_andW hc).1
      rw [hn] at h4
      exact h4
    have h5 := condW_of h4 (w_not (w_lt w_lit (w_len_list (w_arg rfl))))
    rw [List.length_map] at h5
    refine Nat.le_of_not_lt fun q => ?_
    have q' : (n : Int) < ((ns.length : Nat) : Int) := by omega
    first
      | (rw [decide_eq_true q'] at h5; exact absurd h5 (by decide))
      | (simp at h5; omega)
  cases hwl with
  | cons w1 w2 =>
    cases w2
    cases w1 with
    | list ho hall => exact ⟨_, _, ns, rfl, rfl, ho, ints_of_wellAll ns _ hall, hlen⟩

theorem post_true (l : OpenLaw) (args : List WData) : l.row.toRowW.claim.post args (.bool true) args = true :=
  postW_of (r := l.row.toRowW) (X := (true == true))
    (show WShape.has [] (.bool true) .bool = true by first | rfl | decide | simp [WShape.has, WShape.arms, WShape.armsAll])
    (show (WTm.eq .res (.lit (.bool true))).value [] { args := args, res := some (.bool true), after := args } = some (.bool (true == true)) from w_eq_bool (w_res rfl) w_lit) rfl

/-! ### the attachment: holds_open's last premise (the goal 'hc' behind k_head) from a wpAny of the law's body -/
/-- the same from a codeAny of the CALL (for a layer whose function contracts speak of calls) -/
theorem attach_call {l : OpenLaw} {n : Nat} {q : Program} {loose : List Str} {XP : (Str → Option Value) → Heap → Prop} {YP : World → Heap → Prop} {d : DefRec}
    (hn : l.most = some n) (hdf : d.params.defaults = [])
    (call : ∀ (w : World) (s₀ s₁ : Shared) (mg mb : Str → Option Value) (fa : Addr) (o : Obj) (pm cd doc : Value) (a : Addr) (vs : List Value) (ns : List Int),
      Ground q loose [] XP w s₀ mg mb s₁.heap → YP w s₁.heap →
      s₁.heap.get? fa = some o → o.data = .func (docDef d.name d.params d.body d.scope pm cd doc) → s₁.heap.CodeRec cd d.name → mg d.name = some (.ref fa) →
      s₁.heap.get? a = some { cls := .type "list", data := .seq vs.toArray } → IntsAre vs ns → ns.length ≤ n → s₁.gens = #[] →
      codeAny (model l.prog w) callerA (.call (.ref fa) ⟨[.ref a], []⟩) (fun r s' => r = .ok (.ret (.bool true)) ∧ OldK s₁.heap s'.heap ∧ s'.os = s₁.os ∧ AllBare s'.gens) s₁) :
    WalkO q loose XP YP l.row.toRowW d [] (fun f vs => PySem.call f vs) := by
  intro w s₀ s₁ mg mb G Y fa o pm cd doc dV kV ho hd hcd hD hmg hg args vals as hpre hlay hrd hwl hlo
  obtain rfl : dV = .none := Dflts.none hD hdf
  obtain rfl : kV = .none := Dflts.noKw hD
  obtain ⟨a, vs, ns, rfl, rfl, hobj, hints, hlen⟩ := script_of hn hpre hwl
  refine enter_call (codeAny_mono (call w s₀ s₁ mg mb fa o pm cd doc a vs ns G Y ho (fd_plain hd) hcd hmg hobj hints hlen hg) fun r s' hq => ?_)
  obtain ⟨rfl, h2, h3, h4⟩ := hq
  exact ⟨.inl ⟨.bool true, .bool true, [], rfl, fun _ => rfl, .bool true, post_true l _, fun _ => ⟨List.Pairwise.nil, fun _ hm => (nomatch hm)⟩⟩, h2, h3, h4⟩

/-! ### rules over ANY heap (no ledger) from facts about the written part K: the library's own take a ledger (News) for what they write -/
section
variable {prog : Program} {w : World} {A : Around} {E : Value → Shared → Prop} {s : Shared} {K : Frag}

/-! the whole heap as the ledger: makes every rule that writes through a ledger a rule over any heap -/
def noObjs (h : Heap) : Heap := { h with objs := #[] }
def ledger (h : Heap) (L d : Addr) : List (Addr × Obj) := (List.range h.objs.size).filterMap fun a => if a = L ∨ a = d then none else (h.get? a).map fun o => (a, o)
end
end Att

namespace L2
open PySem PySem.Spec PyProof.Rows

theorem vals_ints : ∀ {vs : List Value} {ns : List Int}, IntsAre vs ns → Vals (ns.map V.int) vs
  | _, _, .nil => .nil
  | _, _, .cons n t h => .cons ⟨t, rfl⟩ (vals_ints h)

/-- nothing is tracked but the script, known to the object (or it is an object of the module) -/
def Only (H : Hp) : Prop := ∀ b, H b = none ∨ ∃ o xs, H b = some (.frz o (.lst xs))

/-- THE HEAD: the law's promise, at the heap behind the top. F, the promise of the law's def, may use that base is part of the heap (so K.In base, base.Ns mainGlobals mg stand in Mod) -/
theorem law_call {P : Program} {w : World} {K : PySem.W.Frag} {mg mb : Str → Option Value} {CX : CXT} {k : Nat} {fa a : Addr} {fd : FuncData} {x : Str} {sp : Sp} {s₁ : Shared} {vs : List Value} {ns : List Int}
    (KX : K.In s₁.heap) (hns : s₁.heap.Ns mainGlobals mg) (hb : s₁.heap.Ns builtinsNs mb) (hbb : ∀ x : Str, x ≠ "__name__" → mb x = bootBuiltins x) (hlim : s₁.heap.NoLimit) (hg : s₁.gens = #[])
    (ha : s₁.heap.get? a = some { cls := .type "list", data := .seq vs.toArray }) (hi : IntsAre vs ns) (hl : ns.length ≤ sizeLine) (hr : Room k callerA)
    (F : ∀ base : Heap, K.In base → base.Ns mainGlobals mg → FnOk P w K mg base CX k fa fd [x] sp) (hbind : ∀ (s : Shared) (u : Value), BindsTo s fd ⟨[u], []⟩ [(x, u)])
    (hsp : ∀ H : Hp, Only H → SqL K H a (ns.map V.int) → sp [.ref a] H (fun v _ => v = .bl true) fun _ _ _ => False)
    (hCX : ∀ H e s', CX [] H s₁ (fun _ _ _ => False) e s' → False) :
    codeAny (model P w) callerA (.call (.ref fa) ⟨[.ref a], []⟩) (fun r s' => r = .ok (.ret (.bool true)) ∧ OldK s₁.heap s'.heap ∧ s'.os = s₁.os ∧ AllBare s'.gens) s₁ := by
  have rv := vals_ints hi
  have lenV := hi.length
  -- from an abstract heap in which nothing but the script may be tracked
  have core : ∀ H : Hp, Only H → SqL K H a (ns.map V.int) → HOk P w H s₁.heap → (∀ b, H b ≠ none → b = a) → (H a ≠ none → K.lookup a = none) →
      codeAny (model P w) callerA (.call (.ref fa) ⟨[.ref a], []⟩) (fun r s' => r = .ok (.ret (.bool true)) ∧ OldK s₁.heap s'.heap ∧ s'.os = s₁.os ∧ AllBare s'.gens) s₁ := by
    intro H hO hS hok hA hK
    have base_of : ∀ {b : Addr} {o : Obj}, s₁.heap.get? b = some o → H b = none → (hidT s₁.heap H).get? b = some o := fun e n => hidT_get e n
    have noA : ∀ {b : Addr} {o : Obj} {es : Array DictEntry} {ep : Nat}, s₁.heap.get? b = some o → o.data = .dict es ep → H b = none := fun {b o es ep} e d => by
      cases q : H b with
      | none => rfl
      | some u =>
        have e' : b = a := hA b (by rw [q]; simp)
        subst e'
        rw [ha] at e; cases e
        have d' : Data.seq vs.toArray _ = Data.dict es ep := d
        cases d'
    have nsK : ∀ {b : Addr} {m : Str → Option Value}, s₁.heap.Ns b m → (hidT s₁.heap H).Ns b m := fun {b m} ⟨o, es, ep, e, d, r⟩ => ⟨o, es, ep, base_of e (noA e d), d, r⟩
    have hKb : K.In (hidT s₁.heap H) := fun b o e => base_of (KX b o e) (by
      cases q : H b with
      | none => rfl
      | some u =>
        have e' : b = a := hA b (by rw [q]; simp)
        subst e'
        rw [hK (by rw [q]; simp)] at e; cases e)
    have hM : Mod K mg (hidT s₁.heap H) := ⟨hKb, nsK hns, ⟨mb, nsK hb, hbb⟩, let ⟨mc, h1, h2⟩ := hlim; ⟨mc, nsK h1, h2⟩⟩
    have e0 : Env0 P w K mg (hidT s₁.heap H) callerA [] s₁ H := ⟨rfl, hM, fun b o e => of_hidT e, Nat.le_of_eq (hidT_size _ _), trivial, fun b hb => absurd (show b ∈ ([] : List Addr) from hb) (by simp), hok, .of_eq hg⟩
    refine codeAny_mono ((F _ hKb (nsK hns)).run callerA [] s₁ H ⟨[.ref a], []⟩ [.ref a] [.ref a] _ _ hr e0 (hbind s₁ (.ref a)) (.cons rfl .nil) (hsp H hO hS)) fun r s' h => ?_
    cases r with
    | error e => exact (hCX H e s' h).elim
    | ok fl =>
      cases fl with
      | next => exact False.elim h
      | brk => exact False.elim h
      | cont => exact False.elim h
      | ret u =>
        obtain ⟨v, H', os, bare, un, hok', r', q⟩ := h
        have q' : v = .bl true := q
        subst q'
        obtain rfl : u = Value.bool true := r'
        refine ⟨rfl, OldK.of_keep fun b o e => ?_, os, bare⟩
        cases q : H b with
        | none => exact un.keep b o e q (by intro z; exact absurd (show b ∈ ([] : List Addr) from z) (by simp)) (by simp)
        | some u =>
          rcases hO b with z | ⟨ob, xs, z⟩
          · rw [q] at z; cases z
          · have z2 := un.frzs b ob _ z
            obtain ⟨e1, _⟩ := hok b _ z
            obtain ⟨e2, _⟩ := hok' b _ z2
            rw [e] at e1; cases e1
            exact e2
  cases hk : K.lookup a with
  | some o =>
    -- the script is one of the module's own objects
    have e := KX a o hk
    rw [ha] at e
    cases e
    refine core (fun _ => none) (fun _ => .inl rfl) (.inr ⟨_, vs.toArray, _, hk, rfl, rfl, rfl, by rw [List.size_toArray, lenV]; exact hl, by simpa using rv⟩) (fun b u z => by have z' : (none : Option HO) = some u := z; cases z') (fun b z => absurd rfl z) fun z => absurd rfl z
  | none =>
    refine core (fun b => if b = a then some (.frz { cls := .type "list", data := .seq vs.toArray } (.lst (ns.map V.int))) else none) (fun b => ?_) (.inl (.inr ⟨{ cls := .type "list", data := .seq vs.toArray }, if_pos rfl⟩)) (fun b u z => ?_) (fun b z => ?_) fun _ => hk
    · by_cases hb : b = a
      · exact .inr ⟨_, _, if_pos hb⟩
      · exact .inl (if_neg hb)
    · by_cases hb : b = a
      · have z' := (if_pos hb).symm.trans z
        cases z'
        subst hb
        exact ⟨ha, by rw [List.length_map]; exact hl, vs, _, rv, ha⟩
      · have z' := (if_neg hb).symm.trans z
        cases z'
    · by_cases hb : b = a
      · exact hb
      · exact absurd (if_neg hb) z
end L2

namespace L2
open PySem PySem.Spec PyProof.Rows

abbrev KOf {K : PySem.W.Frag} {h : Heap} (_ : K.In h) : PySem.W.Frag := K

/-- the goal that k_head leaves (case hc), from the law's promise. F gives the function object fd (K's own) once, then the promise over every base -/
theorem walk_of {l : PySem.W.OpenLaw} {n k : Nat} {q : Program} {loose : List Str} {XP : (Str → Option Value) → Heap → Prop} {YP : World → Heap → Prop} {d : DefRec} {K : Params → PySem.W.Frag} {CX : World → CXT} {sp : World → Sp} {x : Str}
    (hn : l.most = some n) (hn2 : n ≤ sizeLine) (hdf : d.params.defaults = []) (hr : Room k callerA)
    (hY : ∀ (w : World) (h : Heap), YP w h → (K w.params).In h)
    (F : ∀ (w : World) (mg : Str → Option Value) (fa : Addr) (h : Heap), (K w.params).In h → h.Ns mainGlobals mg → mg d.name = some (.ref fa) →
      ∃ fd : FuncData, (∀ (s : Shared) (u : Value), BindsTo s fd ⟨[u], []⟩ [(x, u)]) ∧
        ∀ base : Heap, (K w.params).In base → base.Ns mainGlobals mg → FnOk l.prog w (K w.params) mg base (CX w) k fa fd [x] (sp w))
    (hsp : ∀ (w : World) (H : Hp) (a : Addr) (ns : List Int), ns.length ≤ n → Only H → SqL (K w.params) H a (ns.map V.int) → sp w [.ref a] H (fun v _ => v = .bl true) fun _ _ _ => False)
    (hCX : ∀ (w : World) (H : Hp) (s : Shared) (e : Value) (s' : Shared), CX w [] H s (fun _ _ _ => False) e s' → False) :
    PySem.W.WalkO q loose XP YP l.row.toRowW d [] (fun f vs => PySem.call f vs) := by
  refine Att.attach_call hn hdf fun w s₀ s₁ mg mb fa o pm cd doc a vs ns G Y ho hd hcd hmg hobj hints hlen hg => ?_
  have KX := hY w _ Y
  obtain ⟨fd, hb, hF⟩ := F w mg fa _ KX G.T.g hmg
  exact law_call KX G.T.g G.T.b G.T.builtins G.T.nolimit hg hobj hints (Nat.le_trans hlen hn2) hr hF hb (fun H hO hS => hsp w H a ns hlen hO hS) fun H e s' => hCX w H s₁ e s'
end L2

/- THE LAST THEOREM (shape; LID, My.* are yours):
   My.Adr: a structure of the addresses that your layer names (classes, functions); My.Txt K t: a structure (Prop) of the equations over K;
   My.txt_mk : {K} {implicit addresses ..} (e1 : nsIn K mainGlobals "law" = some (some (.ref f))) (e2 : K.lookup f = some ⟨oc, od, .func (fnOf "law" "law" params body scope dV kV doc pm an cdv ct), sl⟩) (e3 : codeIn K cdv "law" = true) .. : ∃ t, My.Txt K t

set_option maxRecDepth 100000 in
set_option maxHeartbeats 0 in
theorem PySem.Challenge.cw_LID_holds : PySem.Challenge.rw_LID.Holds := by
  w_on; o_law; k_head; (case hw => w_witness2)
  k_fill
  refine L2.walk_of (l := PySem.Challenge.rw_LID) (n := 63) (k := 40) (x := "script") (CX := fun w => ..) (sp := fun _ => My.sp_law) rfl (by decide) rfl ⟨rfl, by decide, by decide⟩ (fun w h Y => PySem.W.kIn_of Y) ?F ?S ?C
  case F =>
    intro w mg fa h KX G hmg
    have T : ∃ t, My.Txt (L2.KOf KX) t := by
      dsimp only [L2.KOf]                          -- K must stand as «<heap const> w.params» for k_is
      refine' My.txt_mk ?e1 ?e2 ?e3 ..
      (case e1 => PySem.W.k_is)                    -- in the order: a name -> its address -> its object -> its parts
      (case e2 => PySem.W.k_is)
      ..
    obtain ⟨t, T⟩ := T
    have e0 := hmg.symm.trans (PySem.W.mg_of KX G T.law)
    cases e0                                       -- fa is the law's own address
    exact ⟨_, fun s u => .of_eq rfl, fun base kb nb => My.law_fn T kb nb⟩     -- if «.of_eq rfl» comes too early: refine' ⟨_, ?b, fun base kb nb => My.law_fn T kb nb⟩; exact fun s u => .of_eq rfl
  case S => exact fun w H a ns hl hO hS => ..
  case C => exact ..
(the tactic k_is has no namespace: write k_is) -/

/-! SHORT WORDS over the layer: a def of the text, its body, what a loop and a test want. -/
namespace L2
open PySem PySem.Spec PyProof.Rows

/-! ### the text by places -/
/-- the j-th statement of a class's body -/
def inClass (s : Stmt) (j : Nat) : Stmt := match s with
  | .ClassDef _ _ _ body _ _ _ _ _ _ _ => body.getD j (.Pass ⟨0, 0, 0, 0⟩)
  | _ => .Pass ⟨0, 0, 0, 0⟩
def defArgs (s : Stmt) : Arguments := match s with
  | .FunctionDef _ a _ _ _ _ _ _ _ _ => a
  | _ => { posonlyargs := [], args := [], vararg := none, kwonlyargs := [], kw_defaults := [], kwarg := none, defaults := [] }
def defBody (s : Stmt) : List Stmt := match s with
  | .FunctionDef _ _ b _ _ _ _ _ _ _ => b
  | _ => []
def defScope (s : Stmt) : Scope := match s with
  | .FunctionDef _ _ _ _ _ _ sc _ _ _ => sc
  | _ => { kind := .function, names := [], isGenerator := false, isCoroutine := false }

/-! ### no exception leaves a def -/
abbrev CX0 : CXT := fun _ _ _ _ _ _ => False
abbrev E0 : XK := fun _ _ _ => False
theorem pass0 {X : Cx} : Passes CX0 X E0 := fun _ _ _ _ _ _ _ h => h.elim

/-! ### a def (or method) of the text as it stands behind the top -/
structure Fun (K : PySem.W.Frag) (x qual : Str) (st : Stmt) (f : Addr) (fd : FuncData) : Prop where
  ex : ∃ (oc : Value) (od : Option Addr) (kV doc pm : Value) (an : Option Addr) (cdv ct : Value) (osl : Array (Option Value)),
    fd = PySem.W.fnOf x qual (defArgs st) (defBody st) (defScope st) .none kV doc pm an cdv ct ∧ K.lookup f = some ⟨oc, od, .func fd, osl⟩ ∧ PySem.W.codeIn K cdv qual = true
  kp : PySem.W.keepIn K (.ref f) = true
section
variable {P : Program} {w : World} {K : PySem.W.Frag} {mg : Str → Option Value} {base : Heap}
/-- THE RULE for a def: its body as a term of rules, and the reading of that term -/
theorem Fun.ok {x qual : Str} {st : Stmt} {f : Addr} {fd : FuncData} {N ps : List Str} {k : Nat} {sp : Sp} (F : Fun K x qual st f fd) (S : FnScope N ps (defScope st)) (len : ∀ vs H Q E, sp vs H Q E → vs.length = ps.length)
    (hbody : ∀ (cdv : Value) (A : Around) (outer : List Env) (s : Shared) (H : Hp) (vs : List V) (Q : VK) (E : XK), Room k (A.deeper (envOfC qual (defScope st) s.heap.objs.size f cdv)) → sp vs H Q E →
      ∃ t, PSs (cxOf CX0 P w K mg base N qual (defScope st) f cdv A outer s H E).nox (defBody st) t ∧ t { nx := fun _ H' => Q .non H', rt := Q } (start N vs) H) : FnOk P w K mg base CX0 (k + 1) f fd ps sp := by
  obtain ⟨oc, od, kV, doc, pm, an, cdv, ct, osl, rfl, lk, hcd⟩ := F.ex
  refine fn_of lk hcd S len fun A outer s H vs Q E hr hsp => ?_
  obtain ⟨t, h, q⟩ := hbody cdv A outer s H vs Q E hr hsp
  exact ⟨t, h.nox, q⟩
/-- how its arguments bind (no defaults): h is «fun _ _ _ _ _ _ us hl => match us, hl with | [_, _], _ => rfl», one _ a parameter -/
theorem Fun.binds {x qual : Str} {st : Stmt} {f : Addr} {fd : FuncData} {ps : List Str} (F : Fun K x qual st f fd)
    (h : ∀ (kV doc pm : Value) (an : Option Addr) (cdv ct : Value) (us : List Value), us.length = ps.length → bindArgs (PySem.W.fnOf x qual (defArgs st) (defBody st) (defScope st) .none kV doc pm an cdv ct) ⟨us, []⟩ = pure (ps.zip us)) : Binds K fd ps [] := by
  obtain ⟨oc, od, kV, doc, pm, an, cdv, ct, osl, rfl, lk, hcd⟩ := F.ex
  exact .all (h kV doc pm an cdv ct)
theorem fun_mk {x qual : Str} {st : Stmt} {f : Addr} {oc : Value} {od an : Option Addr} {osl : Array (Option Value)} {kV doc pm cdv ct : Value} (l : K.lookup f = some ⟨oc, od, .func (PySem.W.fnOf x qual (defArgs st) (defBody st) (defScope st) .none kV doc pm an cdv ct), osl⟩)
    (c : PySem.W.codeIn K cdv qual = true) (k : PySem.W.keepIn K (.ref f) = true) : Fun K x qual st f (PySem.W.fnOf x qual (defArgs st) (defBody st) (defScope st) .none kV doc pm an cdv ct) := ⟨⟨oc, od, kV, doc, pm, an, cdv, ct, osl, rfl, l, c⟩, k⟩
end
theorem hu_of {A : Around} {k : Nat} (hr : Room k A) : A.units + 1 < cLine := Nat.lt_of_le_of_lt (Nat.add_le_add_left (by decide : 1 ≤ 64) _) hr.units
theorem small1000 {n : Nat} (h : n ≤ 1000) : n < sizeLine := Nat.lt_of_le_of_lt h (by decide)

/-! ### expressions in short: the name that stands in the i-th slot -/
section
variable {X : Cx}
theorem pv (i : Nat) {x : Str} {pos : Pos} (hN : X.N[i]? = some x := by rfl) (hv : Vis X.env.scope x := by first | exact Or.inl rfl | exact Or.inr (Or.inl rfl) | exact Or.inr (Or.inr rfl)) (hd : (x == ("__debug__" : Str)) = false := by decide)
    (hcd : (x == ("__classdict__" : Str)) = false := by decide) : PE X (.Name x pos) (tVar i) := pe_var hN hv hd hcd
end

/-! ### tests -/
theorem iteF {A B : Prop} (h : B) : if false = true then A else B := by
  rw [if_neg Bool.false_ne_true]
  exact h
theorem iteT {A B : Prop} (h : A) : if true = true then A else B := by
  rw [if_pos rfl]
  exact h
theorem ite2 {c A B : Prop} [Decidable c] (h1 : c → A) (h2 : ¬ c → B) : if c then A else B := by
  by_cases h : c
  · rw [if_pos h]
    exact h1 h
  · rw [if_neg h]
    exact h2 h
theorem iteNS {c A B : Prop} [Decidable c] (hc : c) (h : B) : if (!decide c) = true then A else B := by
  rw [decide_eq_true hc]
  exact iteF h

/-! ### heaps -/
/-- all that was tracked is as it was -/
def Same (H H' : Hp) : Prop := ∀ b o, H b = some o → H' b = some o
theorem Same.refl (H : Hp) : Same H H := fun _ _ h => h
theorem Same.trans {H H1 H2 : Hp} (a : Same H H1) (b : Same H1 H2) : Same H H2 := fun c o h => b c o (a c o h)
theorem Same.free {H H' : Hp} (e : Same H H') {l : Addr} (h : H' l = Option.none) : H l = Option.none := by
  cases q : H l with
  | none => rfl
  | some o =>
    rw [e l o q] at h
    cases h
theorem Same.seq {K : PySem.W.Frag} {H H' : Hp} {a : Addr} {xs : List V} (e : Same H H') (h : SqL K H a xs) : SqL K H' a xs := by
  rcases h with (h | ⟨o, h⟩) | h
  · exact .inl (.inl (e _ _ h))
  · exact .inl (.inr ⟨o, e _ _ h⟩)
  · exact .inr h

end L2

set_option Elab.async false
set_option linter.all false
set_option maxRecDepth 100000
/-! MY LAYER, 1: list comprehensions whose block may call, store, and read what it captures -/
namespace L2
open PySem PySem.Spec PyProof.Rows

def clOf (cells : List (Str × Addr)) : List (Str × NameKind) → List (Str × Addr) → List (Str × Addr)
  | [], acc => acc
  | (n, k) :: r, acc => if k == .free then clOf cells r ((n, (cells.lookup n).getD 0) :: acc) else clOf cells r acc

theorem closureFor_of {sc : Scope} {env : Env} (h : ∀ y ∈ sc.names, y.2 = .free → ∃ c, env.cells.lookup y.1 = some c) :
    closureFor sc env = pure (clOf env.cells sc.names []) := by
  have go : ∀ (names : List (Str × NameKind)) (acc : List (Str × Addr)), (∀ y ∈ names, y.2 = .free → ∃ c, env.cells.lookup y.1 = some c) →
      (forIn names acc fun (x : Str × NameKind) (r : List (Str × Addr)) => if (x.2 == NameKind.free) = true then (do let c ← cellOf env x.1; pure (ForInStep.yield ((x.1, c) :: r))) else pure (ForInStep.yield r) : Sem (List (Str × Addr))) = pure (clOf env.cells names acc) := by
    intro names
    induction names with
    | nil => intro acc _; rfl
    | cons y r ih =>
      intro acc hy
      obtain ⟨n, k⟩ := y
      rw [List.forIn_cons]
      cases hk : (k == NameKind.free) with
      | false =>
        have e1 : clOf env.cells ((n, k) :: r) acc = clOf env.cells r acc := by
          show (if (k == NameKind.free) = true then _ else _) = _
          rw [hk]; rfl
        rw [e1, ← ih acc fun z hz => hy z (List.mem_cons_of_mem _ hz)]
        simp only [hk, Bool.false_eq_true, if_false, pure_bind]
      | true =>
        have hk' : k = .free := by simpa using hk
        obtain ⟨c, hc⟩ := hy (n, k) List.mem_cons_self hk'
        have e1 : clOf env.cells ((n, k) :: r) acc = clOf env.cells r ((n, c) :: acc) := by
          show (if (k == NameKind.free) = true then _ else _) = _
          rw [hk, hc]; rfl
        have e2 : cellOf env n = pure c := by
          unfold cellOf
          rw [hc]
        rw [e1, ← ih ((n, c) :: acc) fun z hz => hy z (List.mem_cons_of_mem _ hz)]
        simp only [hk, if_true, e2, pure_bind]
  have q := go sc.names [] h
  unfold closureFor
  first
    | (rw [show (forIn sc.names ([] : List (Str × Addr)) _ : Sem (List (Str × Addr))) = pure (clOf env.cells sc.names []) from q]; rfl)
    | (simp only [bind_pure]; exact q)
    | exact q

theorem clOf_lookup (cells : List (Str × Addr)) : ∀ (names : List (Str × NameKind)) (acc : List (Str × Addr)) (x : Str) (c : Addr), (clOf cells names acc).lookup x = some c →
    (∃ y ∈ names, y.1 = x ∧ y.2 = .free ∧ c = (cells.lookup x).getD 0) ∨ acc.lookup x = some c
  | [], acc, x, c, h => .inr h
  | (n, k) :: r, acc, x, c, h => by
    by_cases hk : (k == NameKind.free) = true
    · have e : clOf cells ((n, k) :: r) acc = clOf cells r ((n, (cells.lookup n).getD 0) :: acc) := by
        show (if (k == NameKind.free) = true then _ else _) = _
        rw [if_pos hk]
      rw [e] at h
      rcases clOf_lookup cells r _ x c h with ⟨y, hy, q⟩ | q
      · exact .inl ⟨y, List.mem_cons_of_mem _ hy, q⟩
      · rw [List.lookup_cons] at q
        by_cases hx : (x == n) = true
        · rw [hx] at q
          have hx' : x = n := by simpa using hx
          subst hx'
          exact .inl ⟨(x, k), List.mem_cons_self, rfl, by simpa using hk, (Option.some.inj q).symm⟩
        · have hx' : (x == n) = false := by simpa using hx
          rw [hx'] at q
          exact .inr q
    · have e : clOf cells ((n, k) :: r) acc = clOf cells r acc := by
        show (if (k == NameKind.free) = true then _ else _) = _
        rw [if_neg hk]
      rw [e] at h
      rcases clOf_lookup cells r _ x c h with ⟨y, hy, q⟩ | q
      · exact .inl ⟨y, List.mem_cons_of_mem _ hy, q⟩
      · exact .inr q
theorem clOf_acc (cells : List (Str × Addr)) : ∀ (names : List (Str × NameKind)) (acc : List (Str × Addr)) (x : Str), ((∃ y ∈ names, y.1 = x ∧ y.2 = .free) ∨ ∃ c, acc.lookup x = some c) →
    ∃ c, (clOf cells names acc).lookup x = some c
  | [], acc, x, h => by
    rcases h with ⟨y, hy, _⟩ | h
    · cases hy
    · exact h
  | (n, k) :: r, acc, x, h => by
    by_cases hk : (k == NameKind.free) = true
    · have e : clOf cells ((n, k) :: r) acc = clOf cells r ((n, (cells.lookup n).getD 0) :: acc) := by
        show (if (k == NameKind.free) = true then _ else _) = _
        rw [if_pos hk]
      rw [e]
      refine clOf_acc cells r _ x ?_
      by_cases hx : (x == n) = true
      · exact .inr ⟨_, by rw [List.lookup_cons, hx]⟩
      · have hx' : (x == n) = false := by simpa using hx
        rcases h with ⟨y, hy, q⟩ | ⟨c, q⟩
        · rcases List.mem_cons.mp hy with rfl | hy
          · exact absurd (by simpa using q.1.symm) hx
          · exact .inl ⟨y, hy, q⟩
        · exact .inr ⟨c, by rw [List.lookup_cons, hx']; exact q⟩
    · have e : clOf cells ((n, k) :: r) acc = clOf cells r acc := by
        show (if (k == NameKind.free) = true then _ else _) = _
        rw [if_neg hk]
      rw [e]
      refine clOf_acc cells r _ x ?_
      rcases h with ⟨y, hy, q⟩ | h
      · rcases List.mem_cons.mp hy with rfl | hy
        · exact absurd (by simpa using q.2) hk
        · exact .inl ⟨y, hy, q⟩
      · exact .inr h

/-- what is to be seen of a block's names: N the names ahead, N' those within (the first as ahead, where they're captured), o the scope ahead, c the block's -/
structure CompSc (N N' : List Str) (o c : Scope) : Prop where
  kind : c.kind = .function
  okind : o.kind = .function
  nocell : ∀ y ∈ c.names, y.2 ≠ .cell
  loc : ∀ y ∈ c.names, y.2 = .local → c.names.lookup y.1 = some .local
  free : ∀ y ∈ c.names, y.2 = .free → c.names.lookup y.1 = some .free ∧ (o.names.lookup y.1 = some .cell ∨ o.names.lookup y.1 = some .free)
  len : N.length ≤ N'.length
  same : ∀ i ∈ List.range N.length, ∀ x ∈ N'[i]?, c.names.lookup x = some .local ∨ c.names.lookup x = some .free → c.names.lookup x = some .free ∧ N[i]? = some x
  nd : N'.Nodup

def compCx (X : Cx) (c : Scope) (N' : List Str) (C : Addr) (s : Shared) (H : Hp) (fp : List Addr) : Cx :=
  { X with N := N', s₀ := s, H₀ := H, env := compEnvC c (clOf X.env.cells c.names []) C X.env, outer := X.stack, stack := X.stack, ex := fp, fn := fun _ => false, pn := [], xe := fun _ _ => False }

theorem relabel_lookup {env : Env} (hf : env.scope.kind = .function) : ∀ (names : List (Str × NameKind)) (x : Str),
    (names.map fun (p : Str × NameKind) => if (p.2 == NameKind.free && env.scope.kind == .function && env.kindOf p.1 == some .cell) = true then (p.1, NameKind.cell) else (p.1, p.2)).lookup x =
      match names.lookup x with
      | some .free => if env.kindOf x = some .cell then some .cell else some .free
      | k => k
  | [], x => rfl
  | (n, k) :: r, x => by
    have ih := relabel_lookup hf r x
    rw [List.map_cons]
    by_cases hx : (x == n) = true
    · have hx' : x = n := by simpa using hx
      subst hx'
      have e2 : List.lookup x ((x, k) :: r) = some k := by rw [List.lookup_cons]; simp
      rw [e2]
      by_cases hk : k = .free
      · subst hk
        by_cases hc : env.kindOf x = some .cell
        · simp [List.lookup_cons, hf, hc]
        · simp [List.lookup_cons, hf, hc]
      · have hk' : (k == NameKind.free) = false := by simpa using hk
        rw [hk']
        simp only [Bool.false_and, Bool.false_eq_true, if_false, List.lookup_cons, beq_self_eq_true]
        all_goals (cases k <;> first | rfl | exact absurd rfl hk)
    · have hx' : (x == n) = false := by simpa using hx
      have e2 : List.lookup x ((n, k) :: r) = List.lookup x r := by rw [List.lookup_cons, hx']
      rw [e2, ← ih]
      by_cases hc : (k == NameKind.free && env.scope.kind == .function && env.kindOf n == some .cell) = true
      · simp only [hc, if_true, List.lookup_cons, hx']
      · simp only [hc, if_false, List.lookup_cons, hx', Bool.false_eq_true]

section
variable {X : Cx} {N N' : List Str} {o c : Scope}
theorem comp_kind (S : CompSc N N' o c) (ho : X.env.scope = o) (cl : List (Str × Addr)) (C : Addr) (x : Str) : (compEnvC c cl C X.env).kindOf x =
    match c.names.lookup x with
    | some .free => if X.env.kindOf x = some .cell then some .cell else some .free
    | k => k := relabel_lookup (env := X.env) (by rw [ho]; exact S.okind) c.names x

theorem lookup_mem {names : List (Str × NameKind)} {x : Str} {k : NameKind} (h : names.lookup x = some k) : (x, k) ∈ names := PySem.mem_of_lookup h

/-- a captured name's cell is the one ahead -/
theorem comp_cell (S : CompSc N N' o c) (ho : X.env.scope = o) (ok : X.Ok) {x : Str} {a : Addr} (h : (clOf X.env.cells c.names []).lookup x = some a) :
    X.env.cells.lookup x = some a ∧ c.names.lookup x = some .free := by
  rcases clOf_lookup _ _ _ _ _ h with ⟨y, hy, rfl, hf, e⟩ | q
  · have hk := S.free y hy hf
    have hv : X.env.kindOf y.1 = some .cell ∨ X.env.kindOf y.1 = some .free := by
      show X.env.scope.names.lookup y.1 = _ ∨ X.env.scope.names.lookup y.1 = _
      rw [ho]; exact hk.2
    obtain ⟨b, hb⟩ := ok.has y.1 hv
    rw [hb] at e
    exact ⟨by rw [hb, e]; rfl, hk.1⟩
  · cases q
theorem comp_has (S : CompSc N N' o c) (ho : X.env.scope = o) (ok : X.Ok) {x : Str} (h : c.names.lookup x = some .free) : ∃ a, (clOf X.env.cells c.names []).lookup x = some a ∧ X.env.cells.lookup x = some a := by
  obtain ⟨a, ha⟩ := clOf_acc X.env.cells c.names [] x (.inl ⟨(x, .free), lookup_mem h, rfl, rfl⟩)
  exact ⟨a, ha, (comp_cell S ho ok ha).1⟩

/-- the context within -/
theorem comp_ok (S : CompSc N N' o c) (ho : X.env.scope = o) {pins : List (Addr × Obj)} {σ : St} {H : Hp} {s : Shared} {fp : List Addr} (I : Inv X pins σ H s)
    (hf : ∀ b ∈ fp, FpOk X pins H b) (ht : ∀ b ∈ fp, b < s.heap.objs.size) : (compCx X c N' s.heap.objs.size s H fp).Ok where
  mod := I.ok.mod
  kind := S.kind
  glob := I.ok.glob
  blt := I.ok.blt
  above := Nat.le_refl _
  inj := fun x y a h1 h2 => I.ok.inj x y a (comp_cell S ho I.ok h1).1 (comp_cell S ho I.ok h2).1
  has := fun x hx => by
    have e := comp_kind (X := X) S ho (clOf X.env.cells c.names []) s.heap.objs.size x
    have hx' : (compEnvC c (clOf X.env.cells c.names []) s.heap.objs.size X.env).kindOf x = some .cell ∨ (compEnvC c (clOf X.env.cells c.names []) s.heap.objs.size X.env).kindOf x = some .free := hx
    rw [e] at hx'
    cases q : c.names.lookup x with
    | none => rw [q] at hx'; rcases hx' with z | z <;> cases z
    | some k =>
      by_cases hk : k = .free
      · subst hk
        obtain ⟨a, ha, _⟩ := comp_has S ho I.ok q
        exact ⟨a, ha⟩
      · rw [q] at hx'
        have hc : k = .cell := by
          cases k <;> first | rfl | exact absurd rfl hk | (rcases hx' with z | z <;> cases z)
        subst hc
        exact absurd rfl (S.nocell _ (lookup_mem q))
  cab := fun x a h => by cases (show false = true from h)
  hd := I.ok.hd
  frames := I.ok.frames
  stk := .inl rfl
  exf := fun b hb => ⟨Nat.ne_of_lt (ht b hb), fun x a h => (hf b hb).2.2.2.2.1 x a (comp_cell S ho I.ok h).1⟩
  bs := fun b ob e => I.bs b ob e
  bsz := Nat.le_trans I.ok.bsz I.sz
  noex := fun b ob e hb => by
    rcases (hf b hb).2.2.2.1 with z | z
    · exact I.ok.noex b ob e z
    · exact absurd (Nat.lt_of_lt_of_le (Heap.lt_size e) (Nat.le_trans I.ok.bsz z)) (Nat.lt_irrefl _)
  exfs := fun b hb hb' => by
    rcases List.mem_cons.mp (I.stkSub b hb') with z | z
    · exact (hf b hb).2.1 z
    · exact (hf b hb).2.2.1 z
  funs := I.stack
  frf := I.stkFree

/-- the block's entry -/
theorem comp_inv (S : CompSc N N' o c) (hN : X.N = N) (ho : X.env.scope = o) {pins : List (Addr × Obj)} {σ : St} {H : Hp} {s : Shared} {fp : List Addr} {h₁ : Heap} {tk : Nat} {m₀ : Str → Option Value} (I : Inv X pins σ H s)
    (hf : ∀ b ∈ fp, FpOk X pins H b) (ht : ∀ b ∈ fp, b < s.heap.objs.size) (hns : h₁.Ns s.heap.objs.size m₀) (hk : ∀ b ob, s.heap.get? b = some ob → h₁.get? b = some ob) :
    Inv (compCx X c N' s.heap.objs.size s H fp) [] (σ ++ List.replicate (N'.length - N.length) none) H { s with heap := h₁, toks := tk } where
  ok := comp_ok S ho I hf ht
  os := rfl
  bare := I.bare
  base := Un.kept hk
  loc := by
    refine ⟨m₀, hns, fun i x v e1 e2 e3 => ?_⟩
    obtain ⟨m, hn, hl⟩ := I.loc
    have hlen : σ.length = N.length := by rw [I.len, hN]
    have hi : i < σ.length := by
      by_cases hi : i < σ.length
      · exact hi
      · rw [List.getElem?_append_right (by omega), List.getElem?_replicate] at e2
        split at e2 <;> cases e2
    have e2' : σ[i]? = some (some v) := by rw [List.getElem?_append_left hi] at e2; exact e2
    have kd := comp_kind (X := X) S ho (clOf X.env.cells c.names []) s.heap.objs.size x
    have vis : c.names.lookup x = some .local ∨ c.names.lookup x = some .free := by
      have e3' : (compEnvC c (clOf X.env.cells c.names []) s.heap.objs.size X.env).kindOf x = some .local ∨ (compEnvC c (clOf X.env.cells c.names []) s.heap.objs.size X.env).kindOf x = some .cell ∨ (compEnvC c (clOf X.env.cells c.names []) s.heap.objs.size X.env).kindOf x = some .free := e3
      rw [kd] at e3'
      cases q : c.names.lookup x with
      | none => rw [q] at e3'; rcases e3' with z | z | z <;> cases z
      | some k =>
        cases k with
        | «local» => exact .inl rfl
        | free => exact .inr rfl
        | cell => exact absurd rfl (S.nocell _ (lookup_mem q))
        | _ => rw [q] at e3'; rcases e3' with z | z | z <;> cases z
    obtain ⟨hfr, hNi⟩ := S.same i (List.mem_range.mpr (by omega)) x (by rw [show N'[i]? = some x from e1]; rfl) vis
    have hok : X.env.kindOf x = some .cell ∨ X.env.kindOf x = some .free := by
      show X.env.scope.names.lookup x = _ ∨ X.env.scope.names.lookup x = _
      rw [ho]; exact (S.free _ (lookup_mem hfr) rfl).2
    obtain ⟨u, r, l⟩ := hl i x v (by rw [hN]; exact hNi) e2' (.inr hok)
    refine ⟨u, r, .inr ⟨?_, ?_⟩⟩
    · show (compEnvC c (clOf X.env.cells c.names []) s.heap.objs.size X.env).kindOf x = some .cell ∨ (compEnvC c (clOf X.env.cells c.names []) s.heap.objs.size X.env).kindOf x = some .free
      rw [kd, hfr]
      show (if X.env.kindOf x = some .cell then some NameKind.cell else some NameKind.free) = some .cell ∨ (if X.env.kindOf x = some .cell then some NameKind.cell else some NameKind.free) = some .free
      by_cases q : X.env.kindOf x = some .cell
      · rw [if_pos q]; exact .inl rfl
      · rw [if_neg q]; exact .inr rfl
    · obtain ⟨a, ha, ha'⟩ := comp_has S ho I.ok hfr
      refine ⟨a, ha, ?_⟩
      rcases l with ⟨z, _⟩ | ⟨_, a', e, ob, hob, hd⟩
      · rcases hok with q | q <;> rw [q] at z <;> cases z
      · rw [ha'] at e; cases e
        exact ⟨ob, hk _ _ hob, hd⟩
  cell := fun x a h => by
    obtain ⟨v, ob, e, d⟩ := I.cell x a (comp_cell S ho I.ok h).1
    exact ⟨v, ob, hk _ _ e, d⟩
  free := I.hok.fresh (Nat.le_refl _)
  freeC := fun x a h => I.freeC x a (comp_cell S ho I.ok h).1
  pin := fun p hp => absurd (show p ∈ ([] : List (Addr × Obj)) from hp) (by simp)
  hok := I.hok.kept hk
  len := by
    have hlen : σ.length = N.length := by rw [I.len, hN]
    have := S.len
    show (σ ++ List.replicate (N'.length - N.length) none).length = N'.length
    rw [List.length_append, List.length_replicate]
    omega
end
end L2

set_option Elab.async false
set_option linter.all false
set_option maxRecDepth 100000
namespace L2
open PySem PySem.Spec PyProof.Rows

/-- the tests of a clause -/
abbrev testsOf (ifs : List Expr) (env : Env) : Sem Bool :=
  forIn ifs true fun k r => if r = true then do let ok ← isTrue k env (eval k env); pure (ForInStep.yield ok) else pure (ForInStep.yield r)
def PTs (X : Cx) (ifs : List Expr) (t : TT) : Prop :=
  ∀ (pins : List (Addr × Obj)) (s : Shared) (σ : St) (H : Hp) (Q : Bool → Hp → Prop), Inv X pins σ H s → t σ H Q → wpAny (model X.prog X.w) X.A (testsOf ifs X.env) (TP X pins σ Q) X.xe s
def tYes : TT := fun _ H Q => Q true H
theorem pts_nil {X : Cx} : PTs X [] tYes := fun _ _ _ H _ I h => wpAny_tests_nil ⟨H, I, h⟩
theorem pts_one {X : Cx} {e : Expr} {t : TT} (h : PT X e t) : PTs X [e] t := fun pins s σ H Q I q => wpAny_tests_one (h pins s σ H Q I q)

section
variable {prog : Program} {w : World} {A : Around} {R : Result → Shared → Prop} {s : Shared}
/-- a block's loop with any target -/
theorem compLoop_any {elt target iter : Expr} {ifs : List Expr} {scope : Scope} {pos : Pos} {it acc : Value} {env : Env} {E : Value → Shared → Prop} (I : Nat → Shared → Prop)
    (hE : ∀ e s', E e s' → False)
    (turn : ∀ n s, I n s → wpAny (model prog w) A (pyNext it) (fun r s₁ => match r with
      | none => R (.ok .next) s₁
      | some v => wpAny (model prog w) A (letOwnedTupleGo target it v) (fun _ s₀ => wpAny (model prog w) A (assign target env v) (fun _ s₂ =>
          wpAny (model prog w) A (testsOf ifs env) (fun ok s₃ =>
            if ok = true then wpAny (model prog w) A (eval elt env) (fun x s₄ =>
              wpAny (model prog w) A (call (.builtin "list.append") [acc, x]) (fun _ s₅ => ∃ m, m < n ∧ I m s₅) E s₄) E s₃
            else ∃ m, m < n ∧ I m s₃) E s₂) E s₀) E s₁) E s)
    (n : Nat) (h : I n s) : codeAny (model prog w) A (.compLoop (.ListComp elt [⟨target, iter, ifs, 0⟩] scope pos) 0 it acc env) R s := by
  have go : ∀ {α : Type} {t : Sem α} {Q : α → Shared → Prop} {s : Shared}, wpAny (model prog w) A t Q E s → wpAny (model prog w) A t Q (notedBy (model prog w) A env fun e s' => R (.error e) s') s :=
    fun {α t Q s} q => wpAny_mono q (fun _ _ z => z) fun e s' z => (hE e s' z).elim
  refine codeAny_loop rfl I (fun n s hI => ?_) n h
  show wpAny _ A ((compTurn (.ListComp elt [⟨target, iter, ifs, 0⟩] scope pos) 0 it acc env).onRaise (fun x => do noteFrame x env; theTreesLotGoes x)) _ _ s
  refine wpAny_noted ?_
  rw [compTurn_list]
  refine wpAny_bind (wpAny_standAt (wpAny_bind (thn (go (turn n s hI)) fun r s₁ h₁ => ?_)))
  cases r with
  | none => exact wpAny_pure h₁
  | some v =>
    refine wpAny_bind (thn (go h₁) fun _ s₀ h₀ => wpAny_bind (thn (go h₀) fun _ s₂ h₂ => wpAny_bind (thn (go h₂) fun ok s₃ h₃ => ?_)))
    cases ok with
    | false => exact wpAny_pure ⟨rfl, h₃⟩
    | true =>
      exact wpAny_bind (wpAny_bind (thn (go h₃) fun x s₄ h₄ => wpAny_bind (thn (go h₄) fun _ s₅ h₅ => wpAny_pure (wpAny_pure ⟨rfl, h₅⟩))))
end

/-- what a comprehension's turns ask, J given: W by the turn, a measure, what has been gathered -/
def CompGo (J : It) (D : Addr) (k : Nat) (σ : St) (H1 : Hp) (g : TG) (tc : TT) (te : TE) (Q : VK) : Prop :=
  ∃ W : Nat → Nat → List V → St → Hp → Prop, (∃ m, W 0 m [] (σ ++ List.replicate k none) (upd H1 D (.lst []))) ∧
    ∀ i m ys σ2 H2, W i m ys σ2 H2 → (J.stop i H2 ∧ Q (.ref D) H2) ∨
      (J.go i H2 ∧ ∃ N : List V → St → Hp → Prop, (∀ ys' σ' H', N ys' σ' H' → ∃ m', m' < m ∧ W (i + 1) m' ys' σ' H') ∧ ∀ x H3, J.yld i H2 x H3 → g x σ2 H3 fun σ4 H4 => tc σ4 H4 fun b H5 =>
        if b = true then te σ4 H5 fun y H6 => H6 D = some (.lst ys) ∧ ys.length < sizeLine ∧ N (ys ++ [y]) σ4 (upd H6 D (.lst (ys ++ [y]))) else N ys σ4 H5)
def tComp (n : Nat) (wi : TI) (g : TG) (tc : TT) (te : TE) : TE := fun σ H Q => wi σ H fun J H1 => ∀ D, H1 D = none → CompGo J D n σ H1 g tc te Q

section
variable {X : Cx} {N N' : List Str} {o c : Scope}
theorem comp_run {elt tg iter : Expr} {ifs : List Expr} {pos pos' : Pos} {wi : TI} {g : TG} {tc : TT} {te : TE} {use : Option (Value → Sem Unit)} {QQ : Value → Shared → Prop} (S : CompSc N N' o c) (hN : X.N = N) (ho : X.env.scope = o) (hc : X.calm = true)
    (hi : PI X tg iter wi) (hg : ∀ C s H fp, PG (compCx X c N' C s H fp) tg g) (ht : ∀ C s H fp, PTs (compCx X c N' C s H fp) ifs tc) (he : ∀ C s H fp, PE (compCx X c N' C s H fp) elt te)
    (hs : ∀ x, foldedSetIterable iter X.env x = pure x) {pins : List (Addr × Obj)} {s : Shared} {σ : St} {H : Hp} {Q : VK} (I : Inv X pins σ H s) (h : tComp (N'.length - N.length) wi g tc te σ H Q)
    (post : ∀ (D C : Addr) (s5 : Shared) (H5 : Hp) (m : Str → Option Value), Inv X pins σ H5 s5 → H5 C = none → s5.heap.Ns C m → C ≠ X.env.locals → X.s₀.heap.objs.size ≤ C → (∀ x a, X.env.cells.lookup x = some a → a ≠ C) → (∀ p ∈ X.pn ++ pins, p.1 ≠ C) →
      Q (.ref D) H5 → compPost (model X.prog X.w) X.A X.xe use QQ (.ref D) C (.ok .next) s5) :
    wpAny (model X.prog X.w) X.A (comprehension (.ListComp elt [⟨tg, iter, ifs, 0⟩] c pos) c X.env pos' (newList []) false (eval iter X.env) use) QQ X.xe s := by
  have hclos : closureFor c X.env = pure (clOf X.env.cells c.names []) := closureFor_of fun y hy hf => by
    refine I.ok.has y.1 ?_
    show X.env.scope.names.lookup y.1 = _ ∨ X.env.scope.names.lookup y.1 = _
    rw [ho]; exact (S.free y hy hf).2
  refine wpAny_comprehension_free (use := use) rfl hs hclos S.kind S.loc (thn (hi pins s σ H _ I h) fun v s1 h1 => thn h1 fun itv s2 h2 => ?_)
  obtain ⟨it, fp, tn, J, H2, e, I2, T, st2, f2, hR⟩ := h2
  subst e
  have hD : H2 s2.heap.objs.size = none := I2.fresh
  have I3 : Inv X pins σ (upd H2 s2.heap.objs.size (.lst [])) { s2 with heap := s2.heap.push { cls := .type "list", data := .seq ([] : List Value).toArray } } :=
    I2.lnew (ys := []) (its := []) (t' := s2.toks) .nil (Nat.zero_le _)
  have fpl : ∀ b ∈ fp, b < s2.heap.objs.size := fun b hb => by
    obtain ⟨ob, e, _⟩ := T.obj 0 _ st2 b hb
    exact Heap.lt_size e
  refine wpAny_newObj_type (wpAny_newFunctionEnv S.nocell (by intro y hy; simp at hy) (fun h₁ hns₁ hsb₁ => ?_) S.kind)
  have e3 : ∃ s3 : Shared, s3 = { s2 with heap := s2.heap.push { cls := .type "list", data := .seq ([] : List Value).toArray } } := ⟨_, rfl⟩
  obtain ⟨s3, hs3⟩ := e3
  have e3 : s3.heap = s2.heap.push { cls := .type "list", data := .seq ([] : List Value).toArray } := by rw [hs3]
  have sz3 : s3.heap.objs.size = s2.heap.objs.size + 1 := by rw [e3, Heap.size_push]
  have fpl3 : ∀ b ∈ fp, b < s3.heap.objs.size := fun b hb => Nat.lt_of_lt_of_le (fpl b hb) (by rw [sz3]; exact Nat.le_succ _)
  have f3 : ∀ b ∈ fp, FpOk X pins (upd H2 s2.heap.objs.size (.lst [])) b := fun b hb => ⟨by rw [upd_ne (Nat.ne_of_lt (fpl b hb))]; exact (f2 b hb).1, (f2 b hb).2⟩
  have st3 : tn 0 s3.heap := T.keep 0 _ _ st2 fun b _ ob e => by rw [e3]; exact Heap.get?_push_of_some _ e
  rw [← hs3] at I3
  show codeAny (model X.prog X.w) X.A (.compStart _ 0 (.ref it) (.ref s2.heap.objs.size) (compEnvC c (clOf X.env.cells c.names []) (s2.heap.push { cls := .type "list", data := .seq ([] : List Value).toArray }).objs.size X.env))
    (compPost (model X.prog X.w) X.A X.xe use QQ (.ref s2.heap.objs.size) (s2.heap.push { cls := .type "list", data := .seq ([] : List Value).toArray }).objs.size)
    { s2 with heap := h₁, toks := s2.toks + ([] : List (Str × Value)).length }
  have hns : h₁.Ns s3.heap.objs.size (fun x => ([] : List (Str × Value)).reverse.lookup x) := by rw [e3]; exact hns₁
  have hk1 : ∀ b ob, s3.heap.get? b = some ob → h₁.get? b = some ob := fun b ob e => by
    rw [e3] at e
    exact hsb₁.extBut b ob (Nat.ne_of_lt (Heap.lt_size e)) (Heap.get?_push_of_some _ e)
  rw [← e3]
  have es4 : ({ s2 with heap := h₁, toks := s2.toks + ([] : List (Str × Value)).length } : Shared) = { s3 with heap := h₁, toks := s2.toks } := by rw [hs3]; rfl
  rw [es4]
  obtain ⟨W, ⟨m0, w0⟩, turn⟩ := hR s2.heap.objs.size hD
  have I4 := comp_inv (tk := s2.toks) S hN ho I3 f3 fpl3 hns hk1
  have st4 : tn 0 h₁ := T.keep 0 _ _ st3 fun b _ ob e => hk1 b ob e
  generalize hX : compCx X c N' s3.heap.objs.size s3 (upd H2 s2.heap.objs.size (.lst [])) fp = Y at I4
  have Yp : Y.prog = X.prog := by rw [← hX]; rfl
  have Yw : Y.w = X.w := by rw [← hX]; rfl
  have YK : Y.K = X.K := by rw [← hX]; rfl
  have Yc : Y.calm = true := by rw [← hX]; exact hc
  have YA : Y.A = X.A := by rw [← hX]; rfl
  have Yenv : Y.env = compEnvC c (clOf X.env.cells c.names []) s3.heap.objs.size X.env := by rw [← hX]; rfl
  have Yl : Y.env.locals = s3.heap.objs.size := by rw [Yenv]; rfl
  have Yxe : Y.xe = fun _ _ => False := by rw [← hX]; rfl
  have hg' := hg s3.heap.objs.size s3 (upd H2 s2.heap.objs.size (.lst [])) fp
  have ht' := ht s3.heap.objs.size s3 (upd H2 s2.heap.objs.size (.lst [])) fp
  have he' := he s3.heap.objs.size s3 (upd H2 s2.heap.objs.size (.lst [])) fp
  rw [hX] at hg' ht' he'
  have stat : ∀ {H' : Hp}, (∀ b ∈ fp, H' b = none) → ∀ b ∈ fp, FpOk Y [] H' b := fun {H'} hn b hb => by
    obtain ⟨_, q1, q2, q3, q4, _⟩ := f3 b hb
    have z1 := I4.ok.exf b (by rw [← hX]; exact hb)
    refine ⟨hn b hb, z1.1, I4.ok.exfs b (by rw [← hX]; exact hb), .inl (by rw [← hX]; exact hb), z1.2, fun p hp => ?_⟩
    have hp' : p ∈ ([] : List (Addr × Obj)) := by
      have : Y.pn = [] := by rw [← hX]; rfl
      rw [this] at hp; exact hp
    cases hp'
  have fin : ∀ (s5 : Shared) (σ5 : St) (H5 : Hp), Inv Y [] σ5 H5 s5 → Q (.ref s2.heap.objs.size) H5 → compPost (model X.prog X.w) X.A X.xe use QQ (.ref s2.heap.objs.size) s3.heap.objs.size (.ok .next) s5 := fun s5 σ5 H5 I5 q => by
    obtain ⟨m, hn, _⟩ := id I5.loc
    rw [Yl] at hn
    have hCn : H5 s3.heap.objs.size = none := by have := I5.free; rw [Yl] at this; exact this
    have un : Un (frs X.stack) fp (upd H2 s2.heap.objs.size (.lst [])) H5 s3.heap s5.heap := by
      have := I5.base
      rw [← hX] at this
      exact this
    have os5 : s5.os = s3.os := by have := I5.os; rw [← hX] at this; exact this
    have hok5 : HOk X.prog X.w H5 s5.heap := by
      have := I5.hok
      rw [Yp, Yw] at this
      exact this
    refine post _ _ s5 H5 m (I3.call' (s' := s5) (ch := fp) os5 un hok5 I5.bare fun b hb => ?_) hCn hn (Nat.ne_of_gt I3.lt) I3.sz (fun x a e => ?_) (fun p hp => ?_) q
    · obtain ⟨_, q1, _, q3, q4, q5⟩ := f3 b hb
      exact ⟨q3, q1, q4, q5⟩
    · obtain ⟨v, ob, e', _⟩ := I3.cell x a e
      exact Nat.ne_of_lt (Heap.lt_size e')
    · exact Nat.ne_of_lt (Heap.lt_size (I3.pin p hp).1)
  have loop : codeAny (model X.prog X.w) X.A (.compLoop (.ListComp elt [⟨tg, iter, ifs, 0⟩] c pos) 0 (.ref it) (.ref s2.heap.objs.size) (compEnvC c (clOf X.env.cells c.names []) s3.heap.objs.size X.env))
      (compPost (model X.prog X.w) X.A X.xe use QQ (.ref s2.heap.objs.size) s3.heap.objs.size) { s3 with heap := h₁, toks := s2.toks } := by
    rw [← Yenv, ← YA]
    refine compLoop_any (E := fun _ _ => False) (fun n s' => ∃ i ys σ' H', Inv Y [] σ' H' s' ∧ tn i s'.heap ∧ (∀ b ∈ fp, H' b = none) ∧ W i n ys σ' H') (fun _ _ z => z) ?_ m0
      ⟨0, [], _, _, I4, st4, fun b hb => (f3 b hb).1, ?_⟩
    · rintro n s5 ⟨i, ys, σ5, H5, I5, st5, fr5, w5⟩
      rcases turn i n ys σ5 H5 w5 with ⟨stop, qn⟩ | ⟨go, Nn, hNn, step⟩
      · refine thn (T.done Y Yp Yw YK Yc i [] s5 σ5 H5 _ I5 (stat fr5) st5 stop) fun r s6 ⟨hr, I6⟩ => ?_
        subst hr
        have fq := fin s6 σ5 H5 I6 qn
        rw [← YA] at fq
        exact fq
      · refine thn (T.item Y Yp Yw YK Yc i [] s5 σ5 H5 _ I5 (stat fr5) st5 go) fun r s6 ⟨u, hr, h6⟩ => ?_
        subst hr
        refine thn h6 fun _ s7 ⟨x, H7, I7, r7, y7, st7, fr7⟩ => ?_
        have I7' := I7.pinned (stat fr7) (T.obj _ _ st7)
        have back : ∀ {σ9 : St} {H9 : Hp} {s9 : Shared}, Inv Y ([] ++ pinsAt fp s7.heap) σ9 H9 s9 → Inv Y [] σ9 H9 s9 ∧ tn (i + 1) s9.heap ∧ ∀ b ∈ fp, H9 b = none := fun {σ9 H9 s9} I9 => by
          refine ⟨I9.unpinned, T.keep _ _ _ st7 fun b hb ob e => (I9.pin (b, ob) (List.mem_append_right _ (List.mem_append_right _ (mem_pinsAt hb e)))).1, fun b hb => ?_⟩
          obtain ⟨ob, e, d⟩ := T.obj _ _ st7 b hb
          exact (I9.pin (b, ob) (List.mem_append_right _ (List.mem_append_right _ (mem_pinsAt hb e)))).2.1
        have P1 := hg' _ s7 σ5 H7 x u _ I7' r7 (step x H7 y7)
        rw [Yp, Yw, Yxe] at P1
        refine thn P1 fun _ s8 ⟨σ8, H8, I8, q8⟩ => ?_
        have P2 := ht' _ s8 σ8 H8 _ I8 q8
        rw [Yp, Yw, Yxe] at P2
        refine thn P2 fun ok s9 ⟨H9, I9, q9⟩ => ?_
        cases ok with
        | false =>
          rw [if_neg Bool.false_ne_true] at q9
          rw [if_neg Bool.false_ne_true]
          obtain ⟨b1, b2, b3⟩ := back I9
          obtain ⟨m', hm', w9⟩ := hNn _ _ _ q9
          exact ⟨m', hm', i + 1, ys, σ8, H9, b1, b2, b3, w9⟩
        | true =>
          rw [if_pos rfl] at q9
          rw [if_pos rfl]
          have P3 := he' _ s9 σ8 H9 _ I9 q9
          rw [Yp, Yw, Yxe] at P3
          refine thn P3 fun y s10 ⟨vy, H10, I10, r10, hDl, hsz, q10⟩ => ?_
          have P4 := mt_append (X := Y) _ s10 σ8 H10 (.ref s2.heap.objs.size) [vy] (.ref s2.heap.objs.size) [y] (fun _ H' => Nn (ys ++ [vy]) σ8 H') I10 rfl (.cons r10 .nil) ⟨_, ys, vy, rfl, rfl, hDl, hsz, q10⟩
          rw [Yp, Yw, Yxe] at P4
          refine thn P4 fun _ s11 ⟨_, H11, I11, _, q11⟩ => ?_
          obtain ⟨b1, b2, b3⟩ := back I11
          obtain ⟨m', hm', w11⟩ := hNn _ _ _ q11
          exact ⟨m', hm', i + 1, ys ++ [vy], σ8, H11, b1, b2, b3, w11⟩
    · exact w0
  have lp := T.self X.A 0 { s3 with heap := h₁, toks := s2.toks } (fun it' s' => codeAny (model X.prog X.w) X.A (.compLoop (.ListComp elt [⟨tg, iter, ifs, 0⟩] c pos) 0 it' (.ref s2.heap.objs.size) (compEnvC c (clOf X.env.cells c.names []) s3.heap.objs.size X.env))
      (compPost (model X.prog X.w) X.A X.xe use QQ (.ref s2.heap.objs.size) s3.heap.objs.size) s') (fun _ _ => False) st4 loop
  exact codeAny_compStart_list loop (wpAny_mono lp (fun _ _ z => z) fun _ _ z => z.elim)
theorem Inv.let {pins : List (Addr × Obj)} {σ : St} {H : Hp} {s : Shared} {C : Addr} {h' : Heap} (I : Inv X pins σ H s) (hn : H C = none) (hL : C ≠ X.env.locals) (h1 : X.s₀.heap.objs.size ≤ C)
    (h2 : ∀ x a, X.env.cells.lookup x = some a → a ≠ C) (h3 : ∀ p ∈ X.pn ++ pins, p.1 ≠ C) (hs : Heap.SameBut C s.heap h') : Inv X pins σ H { s with heap := h' } :=
  I.turned (t' := s.toks) (fun b ob hb e => hs.extBut b ob hb e) hn hL (.inr h1) h2 h3
theorem pe_comp {elt tg iter : Expr} {ifs : List Expr} {pos : Pos} {wi : TI} {g : TG} {tc : TT} {te : TE} (S : CompSc N N' o c) (hN : X.N = N) (ho : X.env.scope = o) (hc : X.calm = true)
    (hi : PI X tg iter wi) (hg : ∀ C s H fp, PG (compCx X c N' C s H fp) tg g) (ht : ∀ C s H fp, PTs (compCx X c N' C s H fp) ifs tc) (he : ∀ C s H fp, PE (compCx X c N' C s H fp) elt te)
    (hs : ∀ x, foldedSetIterable iter X.env x = pure x := by intro _; rfl) :
    PE X (.ListComp elt [⟨tg, iter, ifs, 0⟩] c pos) (tComp (N'.length - N.length) wi g tc te) := by
  intro pins s σ H Q I h
  rw [eval_ListComp]
  refine comp_run (use := none) S hN ho hc hi hg ht he hs I h fun D C s5 H5 m I5 hCn hn n1 n2 n3 n4 q => ⟨m, hn, fun h' hsb => ?_⟩
  exact ⟨.ref D, H5, I5.let hCn n1 n2 n3 n4 hsb, rfl, q⟩
/-- x = [.. for ..], where the model stores ahead of letting the block's names go -/
theorem ps_setComp {i : Nat} {x : Str} {elt tg iter : Expr} {ifs : List Expr} {pos pos' spos : Pos} {wi : TI} {g : TG} {tc : TT} {te : TE} (hnd : X.N.Nodup) (hx : X.N[i]? = some x) (hl : Loc X.env.scope x) (S : CompSc N N' o c) (hN : X.N = N) (ho : X.env.scope = o) (hc : X.calm = true)
    (hi : PI X tg iter wi) (hg : ∀ C s H fp, PG (compCx X c N' C s H fp) tg g) (ht : ∀ C s H fp, PTs (compCx X c N' C s H fp) ifs tc) (he : ∀ C s H fp, PE (compCx X c N' C s H fp) elt te)
    (hsw : swapsWith (.ListComp elt [⟨tg, iter, ifs, 0⟩] c pos) (some (.Name x pos')) spos.line X.env = pure true)
    (hs : ∀ x, foldedSetIterable iter X.env x = pure x := by intro _; rfl) (hf : X.fn x = true ∨ X.env.scope.names.lookup x = some .local := by first | exact .inl rfl | exact .inr rfl | assumption) :
    PS X (.Assign [.Name x pos'] (.ListComp elt [⟨tg, iter, ifs, 0⟩] c pos) spos) (tAsg (tComp (N'.length - N.length) wi g tc te) (gName i)) := by
  intro pins s σ H D I h
  rw [exec_Assign_Name_used _ _ _ _ hsw]
  refine wpAny_bind (wpAny_standAt (wpAny_bind ?_))
  show wpAny _ X.A (do let _ ← comprehension (.ListComp elt [⟨tg, iter, ifs, 0⟩] c pos) c X.env _ (newList []) false (eval iter X.env) (some (assign (.Name x pos') X.env))) _ _ s
  refine wpAny_bind (thn (comp_run (QQ := fun _ s' => SP X pins D .next s') (use := some (assign (.Name x pos') X.env)) S hN ho hc hi hg ht he hs I h ?_) fun _ s' hq => wpAny_pure (wpAny_pure hq))
  intro L C s5 H5 m I5 hCn hn n1 n2 n3 n4 q
  show wpAny _ X.A (assign (.Name x pos') X.env (.ref L)) _ _ _
  refine wpAny_assign_Name (store_ok2 (v := .ref L) I5 hnd hx hl rfl (fun s6 I6 ⟨a, hsb, ha⟩ => ?_) hf)
  have nCa : C ≠ a := by
    rcases ha with z | z
    · rw [z]; exact n1
    · exact (n3 x a z).symm
  exact ⟨m, hn.sameBut hsb nCa, fun h' hsb' => ⟨_, H5, I6.let hCn n1 n2 n3 n4 hsb', q⟩⟩
end
end L2

set_option Elab.async false
set_option linter.all false
set_option maxRecDepth 100000
namespace L2
open PySem PySem.Spec PyProof.Rows

theorem strsAre_of {ys : List Str} : ∀ {us : List Value}, Vals (ys.map V.str) us → StrsAre us ys := by
  induction ys with
  | nil => intro us r; rw [List.map_nil] at r; cases r; exact .nil
  | cons y ys ih =>
    intro us r
    rw [List.map_cons] at r
    cases r with
    | cons r1 r2 =>
      obtain ⟨t, e⟩ := r1
      subst e
      exact .cons _ _ (ih r2)
section
variable {X : Cx}
/-! ### isinstance -/
def rIsi (K : PySem.W.Frag) : List V → Hp → VK → Prop := fun xs H Q => ∃ x c t b, xs = [x, .ty c] ∧ TyOf K H x t ∧ PySem.W.kitOne K t (.type c) = some b ∧ Q (.bl b) H
theorem call_isi : CallR X (.builtin "isinstance") (rIsi X.K) := by
  intro pins s σ H xs us Q I r h
  obtain ⟨x, c, t, b, rfl, ty, e, q⟩ := h
  obtain ⟨u, w', rfl, rx, rc⟩ := vals2 r
  cases rc
  exact isinst_ok I rx ty e fun tk => ⟨.bl b, H, I.tok _, rfl, q⟩
def rIsiT (K : PySem.W.Frag) : List V → Hp → VK → Prop := fun xs H Q => ∃ (x : V) (tp : Addr) (cs : List String) (t : Value) (b : Bool), xs = [x, .ref tp] ∧ H tp = some (.tup (cs.map V.ty)) ∧ TyOf K H x t ∧ PySem.W.kitAny K t (cs.map Value.type) = some b ∧ Q (.bl b) H
/-! ### all, sorted -/
theorem call_all (hc : X.calm = true) : CallR X (.builtin "all") (fun xs H Q => ∃ (p : Addr) (bs : List Bool), xs = [.ref p] ∧ SqL X.K H p (bs.map V.bl) ∧ Q (.bl (bs.all id)) H) := by
  intro pins s σ H xs us Q I r h
  obtain ⟨p, bs, rfl, hq, q⟩ := h
  obtain ⟨u, rfl, rx⟩ := vals1 r
  cases rx
  obtain ⟨its, rv, pl, hz⟩ := I.list hq
  have hl := pl.isList
  have hlt : p < s.heap.objs.size := by obtain ⟨_, e, _⟩ := hl; exact Heap.lt_size e
  refine call_all_walk (wpAny_pyIter_list hl ?_)
  refine ⟨s.heap.objs.size, [s.heap.objs.size, p], [s.heap.objs.size], its.toArray.size, _, _, fun i => (bs[i]?).getD true, rfl, Walks.list (A := X.A.in1) (I.ok.hd hc) _ p (Nat.ne_of_lt hlt) its.toArray,
    ⟨⟨_, Heap.get?_push_size _ rfl, rfl, rfl⟩, hl.push _⟩, fun i v s' Q' E' hP hQ => ?_, fun h' tk hk => ?_⟩
  · have hP' : its[i]? = some v := by simpa using hP
    have hi : i < its.length := (List.getElem?_eq_some_iff.mp hP').1
    have hlen := rv.length
    have hb : (bs.map V.bl)[i]? = some (V.bl (bs[i]'(by rw [List.length_map] at hlen; omega))) := by
      rw [List.getElem?_map, List.getElem?_eq_getElem (by rw [List.length_map] at hlen; omega)]; rfl
    obtain ⟨u', hu', ru'⟩ := rv.get hb
    rw [hP'] at hu'; cases hu'
    obtain rfl : v = Value.bool _ := ru'
    have hQ2 : Q' ((bs[i]?).getD true) s' := hQ
    rw [List.getElem?_eq_getElem (by rw [List.length_map] at hlen; omega)] at hQ2
    exact wpAny_truthy_bool hQ2
  · have e : ((List.range its.toArray.size).all fun i => (bs[i]?).getD true) = bs.all id := by
      have hlen := rv.length
      rw [List.length_map] at hlen
      rw [List.size_toArray, ← hlen, Bool.eq_iff_iff, List.all_eq_true, List.all_eq_true]
      constructor
      · intro z b hb
        obtain ⟨i, hi, rfl⟩ := List.mem_iff_getElem.mp hb
        have := z i (List.mem_range.mpr hi)
        rw [List.getElem?_eq_getElem hi] at this
        exact this
      · intro z i hi
        have hi' := List.mem_range.mp hi
        rw [List.getElem?_eq_getElem hi']
        exact z _ (List.getElem_mem hi')
    refine ⟨.bl (bs.all id), H, I.kept fun b ob e' => hk b ob (fun hm => ?_) (Heap.get?_push_of_some _ e'), by rw [e]; rfl, q⟩
    rw [List.mem_singleton.mp hm] at e'
    exact Nat.lt_irrefl _ (Heap.lt_size e')
theorem call_sortedI : CallR X (.builtin "sorted") (fun xs H Q => ∃ (p : Addr) (ns : List Int), xs = [.ref p] ∧ SqL X.K H p (ns.map V.int) ∧ ns.length < 64 ∧
    ∀ (l : Addr) (ns' : List Int), H l = none → ns'.Perm ns → ns'.Pairwise (· ≤ ·) → Q (.ref l) (upd H l (.lst (ns'.map V.int)))) := by
  intro pins s σ H xs us Q I r h
  obtain ⟨p, ns, rfl, hq, h64, q⟩ := h
  obtain ⟨u, rfl, rx⟩ := vals1 r
  cases rx
  obtain ⟨its, rv, pl, hz⟩ := I.list hq
  have hlen := rv.length
  rw [List.length_map] at hlen hz
  refine sorted_ints pl.isList (intsAre_of rv) (by omega) fun out ns' a1 a2 a3 => ?_
  obtain ⟨e, he⟩ := sortedAll_at s.heap its out
  have hp := a2.length_eq
  refine ⟨.ref (s.heap.objs.size + 1), _, I.laid (t' := s.toks) (o := .lst (ns'.map V.int)) (fun _ _ => sortedAll_old) (Nat.le_succ _) ⟨by rw [List.length_map]; omega, out.toList, e, vals_ints a1, by simpa using he⟩, rfl, q _ ns' (I.hok.fresh (Nat.le_succ _)) a2 a3⟩
/-! ### texts -/
theorem mt_join : MtR X "str.join" (fun x vs H Q => ∃ (sep : Str) (p : Addr) (ys : List Str), x = .str sep ∧ vs = [.ref p] ∧ SqL X.K H p (ys.map V.str) ∧ (ys.map (·.length)).sum + ys.length * sep.length ≤ 16777216 ∧ Q (.str (Txt.join sep ys)) H) := by
  intro pins s σ H x vs v us Q I rx rv h
  obtain ⟨sep, p, ys, rfl, rfl, hq, hz, q⟩ := h
  obtain ⟨t, rfl⟩ := rx
  obtain ⟨u, rfl, ru⟩ := rv.one
  cases ru
  obtain ⟨its, r', pl, _⟩ := I.list hq
  exact join_list pl.isList (strsAre_of r') hz fun t' k => ⟨.str _, H, I.tok _, ⟨_, rfl⟩, q⟩
theorem op_mulS : OpR X (binaryOp .Mult) (fun x y H Q => ∃ a n, x = .str a ∧ y = .int n ∧ 0 ≤ n ∧ n ≤ 1000000 ∧ (a.length : Int) * n ≤ 1000000 ∧ Q (.str (Txt.mul a n)) H) := by
  intro pins s σ H x y v u Q I rx ry h
  obtain ⟨a, n, rfl, rfl, h0, h1, h2, q⟩ := h
  obtain ⟨t, rfl⟩ := rx
  obtain ⟨t', rfl⟩ := ry
  have h2' : a.length * n.toNat ≤ 1000000 := by
    have e : ((a.length * n.toNat : Nat) : Int) = (a.length : Int) * n := by rw [Int.natCast_mul, Int.toNat_of_nonneg h0]
    omega
  refine PySem.P.mul_str ?_ (fun c1 c2 => ?_) (fun c1 c2 => ?_) ?_
  · have e1 : decide (n < -(2 ^ 63 : Int)) = false := decide_eq_false (by omega)
    have e2 : decide (n ≥ 2 ^ 63) = false := decide_eq_false (by omega)
    rw [e1, e2]; rfl
  · have hn : (1 : Int) ≤ n := by omega
    have q1 : (a.length : Int) * 1 ≤ (a.length : Int) * n := Int.mul_le_mul_of_nonneg_left hn (Int.natCast_nonneg _)
    have q2 : (1000000 : Int) ≤ (2 ^ 63 - 1) / n := by
      rw [Int.le_ediv_iff_mul_le (by omega)]
      have : (1000000 : Int) * n ≤ 1000000 * 1000000 := Int.mul_le_mul_of_nonneg_left h1 (by decide)
      omega
    omega
  · unfold Builtin.Str.tooLong
    have hl : sizeLine = 16777216 := sizeLine_eq
    exact decide_eq_false (by omega)
  · have e : Txt.mul a n = if n < 1 then Str.empty else if (n == 1 || a.length == 0) = true then a else ⟨(List.replicate n.toNat a.cps).foldl (· ++ ·) #[]⟩ := rfl
    rw [e] at q
    by_cases c1 : n < 1
    · rw [if_pos c1] at q ⊢
      exact ⟨by decide, .str _, H, I.tok _, ⟨_, rfl⟩, q⟩
    · rw [if_neg c1] at q ⊢
      by_cases c2 : (n == 1 || a.length == 0) = true
      · rw [if_pos c2] at q ⊢
        exact ⟨.str _, H, I, ⟨_, rfl⟩, q⟩
      · rw [if_neg c2] at q ⊢
        refine ⟨?_, .str _, H, I.tok _, ⟨_, rfl⟩, q⟩
        have hfold : ∀ (k : Nat) (acc : Array Nat), ((List.replicate k a.cps).foldl (· ++ ·) acc).size = acc.size + k * a.cps.size := by
          intro k
          induction k with
          | zero => intro acc; simp
          | succ k ih => intro acc; rw [List.replicate_succ, List.foldl_cons, ih, Array.size_append, Nat.succ_mul]; omega
        show ((List.replicate n.toNat a.cps).foldl (· ++ ·) #[]).size ≤ sizeLine
        rw [hfold]
        have e2 : a.cps.size = a.length := rfl
        have : n.toNat * a.cps.size ≤ 1000000 := by rw [e2, Nat.mul_comm]; exact h2'
        have hl : sizeLine = 16777216 := sizeLine_eq
        simp only [List.size_toArray, List.length_nil]
        omega
def rSlS : V → Option Int → Option Int → Hp → VK → Prop := fun x lo hi H Q => ∃ z, x = .str z ∧ z.length ≤ sizeLine ∧ Q (.str (Txt.slice z lo hi)) H
theorem sl_str : SlR X rSlS := by
  intro pins s σ H x v vl vu lo hi sl Q I rx hs pl pu h
  obtain ⟨z, rfl, hz, q⟩ := h
  obtain ⟨t, rfl⟩ := rx
  have fin : ∀ t' k, EP X pins σ Q (.str (Txt.slice z lo hi) t') { s with toks := k } := fun t' k => ⟨.str _, H, I.tok _, ⟨_, rfl⟩, q⟩
  refine ⟨"str", _, PySem.F.slot_str_getitem.lookup, typeIs_str _ _ _, ?_⟩
  cases pl with
  | none =>
    cases pu with
    | none => exact wpAny_getItem_str_slice (l := none) (u := none) (st := none) hs rfl (post_val_or_str ⟨Nat.le_trans (Txt.slice_le z _ _) hz, fin⟩)
    | int j uj => exact wpAny_getItem_str_slice (l := none) (u := some (j, uj)) (st := none) hs rfl (post_val_or_str ⟨Nat.le_trans (Txt.slice_le z _ _) hz, fin⟩)
  | int i ui =>
    cases pu with
    | none => exact wpAny_getItem_str_slice (l := some (i, ui)) (u := none) (st := none) hs rfl (post_val_or_str ⟨Nat.le_trans (Txt.slice_le z _ _) hz, fin⟩)
    | int j uj => exact wpAny_getItem_str_slice (l := some (i, ui)) (u := some (j, uj)) (st := none) hs rfl (post_val_or_str ⟨Nat.le_trans (Txt.slice_le z _ _) hz, fin⟩)
end
end L2

set_option Elab.async false
set_option linter.all false
set_option maxRecDepth 100000
/-! MY LAYER, 4: zip of two things, each a list, a tuple or a text -/
namespace L2
open PySem PySem.Spec PyProof.Rows

inductive Src where
  | l (a : Addr) | t (a : Addr) | s (z : Str)
def Src.val : Src → V
  | .l a => .ref a
  | .t a => .ref a
  | .s z => .str z
def oneSign (c : Nat) : V := .str ⟨#[c]⟩
def Src.its (K : PySem.W.Frag) (H : Hp) : Src → List V → Prop
  | .l a, xs => SqL K H a xs
  | .t a, xs => SqT K H a xs
  | .s z, xs => xs = z.cps.toList.map oneSign
/-- an iterator over it, k taken -/
def Src.at (h : Heap) (i : Addr) : Src → Nat → Prop
  | .l a, k => h.IsListIter i a k
  | .t a, k => h.IsTupleIter i a k
  | .s z, k => ∃ tk, h.IsStrIter i (strIterType z) z tk k
/-- the items in the heap -/
def Src.raw (h : Heap) : Src → List Value → Prop
  | .l a, us => h.IsList a us.toArray
  | .t a, us => h.IsTuple a us.toArray
  | .s _, _ => True
/-- the k-th item -/
def Src.fit : Src → List Value → Nat → Value → Prop
  | .l _, us, k, u => us[k]? = some u
  | .t _, us, k, u => us[k]? = some u
  | .s z, _, k, u => ∃ c tk, z.cps[k]? = some c ∧ u = .str ⟨#[c]⟩ tk
def Src.many : Src → List Value → Nat
  | .l _, us => us.length
  | .t _, us => us.length
  | .s z, _ => z.cps.size
/-- it does not stand at b -/
def Src.off : Src → Addr → Prop
  | .l a, b => a ≠ b
  | .t a, b => a ≠ b
  | .s _, _ => True
theorem Src.at_obj {h : Heap} {i : Addr} : ∀ {S : Src} {k : Nat}, S.at h i k → ∃ o vs, h.get? i = some o ∧ o.data = .fields vs
  | .l _, _, ⟨o, e, _, d⟩ => ⟨o, _, e, d⟩
  | .t _, _, ⟨o, e, _, d⟩ => ⟨o, _, e, d⟩
  | .s _, _, ⟨_, o, e, _, d⟩ => ⟨o, _, e, d⟩
theorem Src.at_keep {h h' : Heap} {i : Addr} (k' : ∀ o, h.get? i = some o → h'.get? i = some o) : ∀ {S : Src} {k : Nat}, S.at h i k → S.at h' i k
  | .l _, _, ⟨o, e, d⟩ => ⟨o, k' o e, d⟩
  | .t _, _, ⟨o, e, d⟩ => ⟨o, k' o e, d⟩
  | .s _, _, ⟨tk, o, e, d⟩ => ⟨tk, o, k' o e, d⟩
theorem Src.raw_keep {h h' : Heap} {b : Addr} (k' : ∀ c o, c ≠ b → h.get? c = some o → h'.get? c = some o) : ∀ {S : Src} {us : List Value}, S.off b → S.raw h us → S.raw h' us
  | .l _, _, f, ⟨o, e, d⟩ => ⟨o, k' _ o f e, d⟩
  | .t _, _, f, ⟨o, e, d⟩ => ⟨o, k' _ o f e, d⟩
  | .s _, _, _, _ => trivial
section
variable {prog : Program} {w : World} {A : Around} {E : Value → Shared → Prop} {s : Shared}
theorem nextOf_tuple {it t : Addr} {i : Nat} {items : Array Value} {x : Value} {Q : Value → Shared → Prop} (hit : s.heap.IsTupleIter it t i) (ht : s.heap.IsTuple t items) (hx : items[i]? = some x)
    (hQ : ∀ h', h'.IsTupleIter it t (i + 1) → Heap.SameBut it s.heap h' → Q x { s with heap := h' }) : wpAny (model prog w) A (Builtin.SmallTypes.nextOf (.ref it)) Q E s := by
  obtain ⟨o, ho, hc, hd⟩ := id hit
  obtain ⟨ol, hol, _, nl, hdl⟩ := ht
  unfold Builtin.SmallTypes.nextOf
  refine wpAny_bind (wpAny_callSpecial?_slot (name := Str.ofString "__next__") hit.typeIs F.slot_tuple_iterator_next
    (wpAny_call_entry F.slot_tuple_iterator_next hit.typeIs F.entry_tuple_iterator_next ?_ (F.args_tuple_iterator_next_1 _)))
  show wpAny _ _ (field (.ref it) 0 >>= _) _ _ s
  refine wpAny_bind (wpAny_field ho hd (x := .ref t) rfl ?_)
  show wpAny _ _ (if (Value.ref t == Value.none) = true then _ else _) _ _ s
  rw [if_neg (show ¬ ((Value.ref t == Value.none) = true) from Bool.false_ne_true)]
  show wpAny _ _ (field (.ref it) 1 >>= _) _ _ s
  refine wpAny_bind (wpAny_field ho hd (x := .int i 0) rfl ?_)
  show wpAny _ _ (seqItems? (.ref t) >>= _) _ _ s
  refine wpAny_bind (wpAny_seqItems hol hdl ?_)
  simp only [Int.toNat_natCast, hx]
  refine wpAny_bind (wpAny_setField ho hd (by simp) (wpAny_pure ⟨x, rfl, wpAny_pure (hQ _ ?_ (Heap.SameBut.update ..))⟩))
  exact ⟨_, Heap.get?_update_self _ ho (Obj.isFreed_of_fields (Obj.data_mapFields hd _)), (Obj.cls_mapFields ..).trans hc, by
    rw [Obj.data_mapFields hd]; simp [rawInt]⟩
theorem nextOf_item {i : Addr} {k : Nat} {us : List Value} {Q : Value → Shared → Prop} : ∀ {S : Src}, S.at s.heap i k → S.raw s.heap us → k < S.many us →
    (∀ h' tk u, S.fit us k u → S.at h' i (k + 1) → Heap.SameBut i s.heap h' → Q u { s with heap := h', toks := tk }) → wpAny (model prog w) A (Builtin.SmallTypes.nextOf (.ref i)) Q E s
  | .l a, h1, h2, h3, hQ => wpAny_nextOf_list_item h1 h2 (x := us[k]'h3) (by rw [List.getElem?_toArray]; exact List.getElem?_eq_getElem h3) fun h' q1 q2 => hQ h' s.toks _ (List.getElem?_eq_getElem h3) q1 q2
  | .t a, h1, h2, h3, hQ => nextOf_tuple h1 h2 (x := us[k]'h3) (by rw [List.getElem?_toArray]; exact List.getElem?_eq_getElem h3) fun h' q1 q2 => hQ h' s.toks _ (List.getElem?_eq_getElem h3) q1 q2
  | .s z, ⟨tk, h1⟩, h2, h3, hQ => by
    have hx : z.cps[k]? = some z.cps[k] := Array.getElem?_eq_getElem h3
    by_cases ha : z.cps.all (· < 128) = true
    · have e : strIterType z = "str_ascii_iterator" := by unfold strIterType; rw [if_pos ha]
      rw [e] at h1
      exact wpAny_nextOf_ascii_item h1 hx fun h' q1 q2 => hQ h' _ _ ⟨_, _, hx, rfl⟩ ⟨tk, by rw [e]; exact q1⟩ q2
    · have e : strIterType z = "str_iterator" := by unfold strIterType; rw [if_neg ha]
      rw [e] at h1
      exact wpAny_nextOf_wide_item h1 hx fun h' q1 q2 => hQ h' _ _ ⟨_, _, hx, rfl⟩ ⟨tk, by rw [e]; exact q1⟩ q2

theorem nextOf_tuple_end {it t : Addr} {i : Nat} {items : Array Value} {Q : Value → Shared → Prop} (hh : A.handled = none) (hit : s.heap.IsTupleIter it t i) (ht : s.heap.IsTuple t items) (hx : items[i]? = none)
    (hE : ∀ h' e, Heap.ExtBut it s.heap h' → (∃ o, h'.get? e = some o ∧ o.cls = .type "StopIteration") → E (.ref e) { s with heap := h' }) : wpAny (model prog w) A (Builtin.SmallTypes.nextOf (.ref it)) Q E s := by
  obtain ⟨o, ho, hc, hd⟩ := id hit
  obtain ⟨ol, hol, _, nl, hdl⟩ := ht
  unfold Builtin.SmallTypes.nextOf
  refine wpAny_bind (wpAny_callSpecial?_slot (name := Str.ofString "__next__") hit.typeIs F.slot_tuple_iterator_next
    (wpAny_call_entry F.slot_tuple_iterator_next hit.typeIs F.entry_tuple_iterator_next ?_ (F.args_tuple_iterator_next_1 _)))
  show wpAny _ _ (field (.ref it) 0 >>= _) _ _ s
  refine wpAny_bind (wpAny_field ho hd (x := .ref t) rfl ?_)
  show wpAny _ _ (if (Value.ref t == Value.none) = true then _ else _) _ _ s
  rw [if_neg (show ¬ ((Value.ref t == Value.none) = true) from Bool.false_ne_true)]
  show wpAny _ _ (field (.ref it) 1 >>= _) _ _ s
  refine wpAny_bind (wpAny_field ho hd (x := .int i 0) rfl ?_)
  show wpAny _ _ (seqItems? (.ref t) >>= _) _ _ s
  refine wpAny_bind (wpAny_seqItems hol hdl ?_)
  simp only [Int.toNat_natCast, hx]
  refine wpAny_bind (wpAny_rule (wpAny_bind (wpAny_setField ho hd (by simp) ?_)))
  show wpAny _ _ (newExc (.type "StopIteration") [] >>= _) _ _ _
  refine wpAny_bind ?_
  simp only [newExc, newTuple]
  refine wpAny_bind (wpAny_newObj_type ?_ (by size_fits))
  refine wpAny_bind (m := firstArgMember _ _) (wpAny_of_eq (a := Value.none) (by first | rfl | (simp only [firstArgMember]; rfl)) ?_)
  refine wpAny_newObj_type ?_ (by size_fits)
  simp only [raiseNew]
  refine wpAny_bind (wpAny_handled ?_)
  first | rw [show A.in1.handled = none from hh] | rw [hh]
  refine wpAny_bind (wpAny_pure (wpAny_throw ?_))
  exact hE _ _ (((Heap.SameBut.update ..).extBut.push _).push _) ⟨_, Heap.get?_push_size _ rfl, rfl⟩
theorem nextOf_end {i : Addr} {k : Nat} {us : List Value} {Q : Value → Shared → Prop} (hh : A.handled = none) : ∀ {S : Src}, S.at s.heap i k → S.raw s.heap us → S.many us ≤ k →
    (∀ h' e, Heap.ExtBut i s.heap h' → (∃ o, h'.get? e = some o ∧ o.cls = .type "StopIteration") → E (.ref e) { s with heap := h' }) → wpAny (model prog w) A (Builtin.SmallTypes.nextOf (.ref i)) Q E s
  | .l a, h1, h2, h3, hE => wpAny_nextOf_list_end hh h1 h2 (by rw [List.getElem?_toArray]; exact List.getElem?_eq_none h3) hE
  | .t a, h1, h2, h3, hE => nextOf_tuple_end hh h1 h2 (by rw [List.getElem?_toArray]; exact List.getElem?_eq_none h3) hE
  | .s z, ⟨tk, h1⟩, h2, h3, hE => by
    have hx : z.cps[k]? = none := Array.getElem?_eq_none h3
    by_cases ha : z.cps.all (· < 128) = true
    · have e : strIterType z = "str_ascii_iterator" := by unfold strIterType; rw [if_pos ha]
      rw [e] at h1
      exact wpAny_nextOf_ascii_end hh h1 hx hE
    · have e : strIterType z = "str_iterator" := by unfold strIterType; rw [if_neg ha]
      rw [e] at h1
      exact wpAny_nextOf_wide_end hh h1 hx hE

structure ZipOff (z TI TO i1 i2 : Addr) (S1 S2 : Src) : Prop where
  TIz : TI ≠ z
  TOz : TO ≠ z
  i1z : i1 ≠ z
  i2z : i2 ≠ z
  TITO : TI ≠ TO
  TIi1 : TI ≠ i1
  TIi2 : TI ≠ i2
  TOi1 : TO ≠ i1
  TOi2 : TO ≠ i2
  i12 : i1 ≠ i2
  s1z : S1.off z
  s1TO : S1.off TO
  s1i1 : S1.off i1
  s1i2 : S1.off i2
  s2z : S2.off z
  s2TO : S2.off TO
  s2i1 : S2.off i1
  s2i2 : S2.off i2

theorem zip_step {z TI TO i1 i2 : Addr} {S1 S2 : Src} {k : Nat} {us1 us2 : List Value} {a b : Value} {Q : Option Value → Shared → Prop} (D : ZipOff z TI TO i1 i2 S1 S2)
    (hz : IsZip s.heap z TI TO .none) (hTI : IsPair s.heap TI (.ref i1) (.ref i2)) (hTO : IsPair s.heap TO a b)
    (h1 : S1.at s.heap i1 k) (h2 : S2.at s.heap i2 k) (r1 : S1.raw s.heap us1) (r2 : S2.raw s.heap us2) (m1 : k < S1.many us1) (m2 : k < S2.many us2)
    (hQ : ∀ h' tk x y, S1.fit us1 k x → S2.fit us2 k y → IsZip h' z TI TO (rawInt s.heap.objs.size) → IsPair h' TO x y → S1.at h' i1 (k + 1) → S2.at h' i2 (k + 1) → IsPair h' s.heap.objs.size x y → h'.objs.size = s.heap.objs.size + 1 →
      (∀ c o, c ≠ z → c ≠ TO → c ≠ i1 → c ≠ i2 → s.heap.get? c = some o → h'.get? c = some o) → Q (some (.ref s.heap.objs.size)) { s with heap := h', toks := tk }) :
    wpAny (model prog w) A (pyNext (.ref z)) Q E s := by
  have hT : s.TypeIs (.ref z) "zip" := ⟨_, hz, rfl⟩
  unfold pyNext
  refine wpAny_bind (wpAny_attempt (wpAny_callSpecial?_slot (name := Str.ofString "__next__") hT F.slot_zip_next (wpAny_call_entry F.slot_zip_next hT F.entry_zip_next ?_ (F.args_zip_next_1 _))))
  show wpAny _ _ (field (.ref z) 2 >>= _) _ _ _
  refine wpAny_bind (wpAny_field hz rfl (x := .bool false) rfl ?_)
  show wpAny _ _ (field (.ref z) 3 >>= _) _ _ _
  refine wpAny_bind (wpAny_field hz rfl (x := .ref TI) rfl (wpAny_bind (wpAny_seqItems hTI rfl ?_)))
  show wpAny _ _ (Builtin.SmallTypes.ownedTupleIsFree (.ref z) >>= _) _ _ _
  unfold Builtin.SmallTypes.ownedTupleIsFree
  refine wpAny_bind (wpAny_bind (wpAny_field hz rfl (x := .none) rfl (wpAny_pure ?_)))
  simp only [if_true]
  refine wpAny_bind (wpAny_rule (wpAny_bind (wpAny_field hz rfl (x := .ref TO) rfl (wpAny_bind (wpAny_setField_rec hz (by simp) fun h₁ hz₁ hs₁ => ?_)))))
  replace hz₁ : IsZip h₁ z TI TO .ellipsis := hz₁
  refine wpAny_bind ?_
  simp only [List.zipIdx_cons, List.zipIdx_nil, List.forIn_cons, List.forIn_nil]
  refine wpAny_bind (wpAny_bind (wpAny_onRaise ?_))
  show wpAny _ _ (Builtin.SmallTypes.nextOf (.ref i1) >>= _) _ _ _
  refine wpAny_bind (nextOf_item (S := S1) (us := us1) (k := k) (S1.at_keep (fun o e => hs₁.extBut _ o D.i1z e) h1) (S1.raw_keep (fun c o n e => hs₁.extBut c o n e) D.s1z r1) m1 fun h₂ tk₂ x fx h1₂ hs₂ => wpAny_pure ?_)
  have hs₂' : Heap.SameBut i1 h₁ h₂ := hs₂
  have hTO₂ : IsPair h₂ TO a b := hs₂'.extBut _ _ D.TOi1 (hs₁.extBut _ _ D.TOz hTO)
  refine wpAny_bind (wpAny_seqItems hTO₂ rfl (wpAny_bind (wpAny_updateSeq_pair hTO₂ fun h₃ hTO₃ hs₃ => wpAny_bind (wpAny_letGo (wpAny_pure ?_)))))
  replace hTO₃ : IsPair h₃ TO x b := hTO₃
  have hs₃' : Heap.SameBut TO h₂ h₃ := hs₃
  refine wpAny_bind (wpAny_bind (wpAny_onRaise ?_))
  show wpAny _ _ (Builtin.SmallTypes.nextOf (.ref i2) >>= _) _ _ _
  refine wpAny_bind (nextOf_item (S := S2) (us := us2) (k := k)
    (S2.at_keep (fun o e => hs₃'.extBut _ o D.TOi2.symm (hs₂'.extBut _ o D.i12.symm (hs₁.extBut _ o D.i2z e))) h2)
    (S2.raw_keep (fun c o n e => hs₃'.extBut c o n e) D.s2TO (S2.raw_keep (fun c o n e => hs₂'.extBut c o n e) D.s2i1 (S2.raw_keep (fun c o n e => hs₁.extBut c o n e) D.s2z r2))) m2 fun h₄ tk₄ y fy h2₄ hs₄ => wpAny_pure ?_)
  have hs₄' : Heap.SameBut i2 h₃ h₄ := hs₄
  have hTO₄ : IsPair h₄ TO x b := hs₄'.extBut _ _ D.TOi2 hTO₃
  refine wpAny_bind (wpAny_seqItems hTO₄ rfl (wpAny_bind (wpAny_updateSeq_pair hTO₄ fun h₅ hTO₅ hs₅ => wpAny_bind (wpAny_letGo (wpAny_pure (wpAny_pure ?_))))))
  replace hTO₅ : IsPair h₅ TO x y := hTO₅
  have hs₅' : Heap.SameBut TO h₄ h₅ := hs₅
  refine wpAny_bind (wpAny_seqItems hTO₅ rfl (wpAny_bind (wpAny_newTuple ?_)))
  have hsz : h₅.objs.size = s.heap.objs.size := by rw [hs₅'.1, hs₄'.1, hs₃'.1, hs₂'.1, hs₁.1]
  have hz₅ : IsZip h₅ z TI TO .ellipsis := hs₅'.extBut _ _ D.TOz.symm (hs₄'.extBut _ _ D.i2z.symm (hs₃'.extBut _ _ D.TOz.symm (hs₂'.extBut _ _ D.i1z.symm hz₁)))
  have hk₅ : ∀ c o, c ≠ z → c ≠ TO → c ≠ i1 → c ≠ i2 → s.heap.get? c = some o → h₅.get? c = some o := fun c o c1 c2 c3 c4 e =>
    hs₅'.extBut _ _ c2 (hs₄'.extBut _ _ c4 (hs₃'.extBut _ _ c2 (hs₂'.extBut _ _ c3 (hs₁.extBut _ _ c1 e))))
  have h1₅ : S1.at h₅ i1 (k + 1) := S1.at_keep (fun o e => hs₅'.extBut _ o D.TOi1.symm (hs₄'.extBut _ o D.i12 (hs₃'.extBut _ o D.TOi1.symm e))) h1₂
  have h2₅ : S2.at h₅ i2 (k + 1) := S2.at_keep (fun o e => hs₅'.extBut _ o D.TOi2.symm e) h2₄
  have hzlt : z < h₅.objs.size := Heap.lt_size hz₅
  show wpAny _ _ (Builtin.SmallTypes.ownedTupleHandOut (.ref z) (.ref h₅.objs.size) >>= _) _ _ _
  refine wpAny_bind ?_
  unfold Builtin.SmallTypes.ownedTupleHandOut
  have hz₆ : IsZip (h₅.push { cls := .type "tuple", data := .seq #[x, y] }) z TI TO .ellipsis := Heap.get?_push_of_some _ hz₅
  refine wpAny_bind (wpAny_setField_rec hz₆ (by simp) fun h₇ hz₇ hs₇ => ?_)
  replace hz₇ : IsZip h₇ z TI TO (rawInt h₅.objs.size) := hz₇
  refine wpAny_setField_rec hz₇ (by simp) fun h₈ hz₈ hs₈ => ?_
  replace hz₈ : IsZip h₈ z TI TO (rawInt h₅.objs.size) := hz₈
  have up : ∀ c o, c ≠ z → h₅.get? c = some o → h₈.get? c = some o := fun c o c1 e => hs₈.extBut _ _ c1 (hs₇.extBut _ _ c1 (Heap.get?_push_of_some _ e))
  have hT₈ : IsPair h₈ h₅.objs.size x y := hs₈.extBut _ _ (Nat.ne_of_gt hzlt) (hs₇.extBut _ _ (Nat.ne_of_gt hzlt) (Heap.get?_push_size _ rfl))
  have hz8 : h₈.objs.size = h₅.objs.size + 1 := by rw [hs₈.1, hs₇.1, Heap.size_push]
  rw [hsz] at hz₈ hT₈ hz8
  refine wpAny_pure ⟨_, rfl, wpAny_pure ?_⟩
  show Q (some (.ref h₅.objs.size)) _
  rw [hsz]
  exact hQ h₈ tk₄ x y fx fy hz₈ (up _ _ D.TOz hTO₅) (S1.at_keep (fun o e => up _ o D.i1z e) h1₅) (S2.at_keep (fun o e => up _ o D.i2z e) h2₅) hT₈ hz8 fun c o c1 c2 c3 c4 e => up c o c1 (hk₅ c o c1 c2 c3 c4 e)

theorem zip_stop {z TI TO i1 i2 : Addr} {S1 S2 : Src} {k : Nat} {us1 us2 : List Value} {a b : Value} {Q : Option Value → Shared → Prop} (hh : A.handled = none) (D : ZipOff z TI TO i1 i2 S1 S2)
    (hz : IsZip s.heap z TI TO .none) (hTI : IsPair s.heap TI (.ref i1) (.ref i2)) (hTO : IsPair s.heap TO a b)
    (h1 : S1.at s.heap i1 k) (h2 : S2.at s.heap i2 k) (r1 : S1.raw s.heap us1) (r2 : S2.raw s.heap us2) (hend : S1.many us1 ≤ k ∨ S2.many us2 ≤ k)
    (hQ : ∀ h' tk, (∀ c o, c ≠ z → c ≠ TO → c ≠ i1 → c ≠ i2 → s.heap.get? c = some o → h'.get? c = some o) → Q none { s with heap := h', toks := tk }) :
    wpAny (model prog w) A (pyNext (.ref z)) Q E s := by
  have hT : s.TypeIs (.ref z) "zip" := ⟨_, hz, rfl⟩
  unfold pyNext
  have done : ∀ (h' : Heap) (tk : Nat) (e : Addr), (∀ c o, c ≠ z → c ≠ TO → c ≠ i1 → c ≠ i2 → s.heap.get? c = some o → h'.get? c = some o) → (∃ o, h'.get? e = some o ∧ o.cls = .type "StopIteration") →
      wpAny (model prog w) A (do if (← isInstance (.ref e) (.type "StopIteration")) then pure none else throw (.ref e) : Sem (Option Value)) Q E { s with heap := h', toks := tk } := fun h' tk e hk ⟨o, ho, hc⟩ =>
    wpAny_bind (wpAny_isInstance (T := "StopIteration") (b := true) ⟨o, ho, hc⟩ isSubtype_stop (wpAny_pure (hQ h' tk hk)))
  refine wpAny_bind (wpAny_attempt (wpAny_callSpecial?_slot (name := Str.ofString "__next__") hT F.slot_zip_next (wpAny_call_entry F.slot_zip_next hT F.entry_zip_next ?_ (F.args_zip_next_1 _))))
  show wpAny _ _ (field (.ref z) 2 >>= _) _ _ _
  refine wpAny_bind (wpAny_field hz rfl (x := .bool false) rfl ?_)
  show wpAny _ _ (field (.ref z) 3 >>= _) _ _ _
  refine wpAny_bind (wpAny_field hz rfl (x := .ref TI) rfl (wpAny_bind (wpAny_seqItems hTI rfl ?_)))
  show wpAny _ _ (Builtin.SmallTypes.ownedTupleIsFree (.ref z) >>= _) _ _ _
  unfold Builtin.SmallTypes.ownedTupleIsFree
  refine wpAny_bind (wpAny_bind (wpAny_field hz rfl (x := .none) rfl (wpAny_pure ?_)))
  simp only [if_true]
  refine wpAny_bind (wpAny_rule (wpAny_bind (wpAny_field hz rfl (x := .ref TO) rfl (wpAny_bind (wpAny_setField_rec hz (by simp) fun h₁ hz₁ hs₁ => ?_)))))
  replace hz₁ : IsZip h₁ z TI TO .ellipsis := hz₁
  refine wpAny_bind ?_
  simp only [List.zipIdx_cons, List.zipIdx_nil, List.forIn_cons, List.forIn_nil]
  refine wpAny_bind (wpAny_bind (wpAny_onRaise ?_))
  show wpAny _ _ (Builtin.SmallTypes.nextOf (.ref i1) >>= _) _ _ _
  by_cases m1 : k < S1.many us1
  · have m2 : S2.many us2 ≤ k := by rcases hend with z' | z'; omega; exact z'
    refine wpAny_bind (nextOf_item (S := S1) (us := us1) (k := k) (S1.at_keep (fun o e => hs₁.extBut _ o D.i1z e) h1) (S1.raw_keep (fun c o n e => hs₁.extBut c o n e) D.s1z r1) m1 fun h₂ tk₂ x fx h1₂ hs₂ => wpAny_pure ?_)
    have hs₂' : Heap.SameBut i1 h₁ h₂ := hs₂
    have hTO₂ : IsPair h₂ TO a b := hs₂'.extBut _ _ D.TOi1 (hs₁.extBut _ _ D.TOz hTO)
    refine wpAny_bind (wpAny_seqItems hTO₂ rfl (wpAny_bind (wpAny_updateSeq_pair hTO₂ fun h₃ hTO₃ hs₃ => wpAny_bind (wpAny_letGo (wpAny_pure ?_)))))
    have hs₃' : Heap.SameBut TO h₂ h₃ := hs₃
    refine wpAny_bind (wpAny_bind (wpAny_onRaise ?_))
    show wpAny _ _ (Builtin.SmallTypes.nextOf (.ref i2) >>= _) _ _ _
    refine wpAny_bind (nextOf_end (S := S2) (us := us2) (k := k) hh
      (S2.at_keep (fun o e => hs₃'.extBut _ o D.TOi2.symm (hs₂'.extBut _ o D.i12.symm (hs₁.extBut _ o D.i2z e))) h2)
      (S2.raw_keep (fun c o n e => hs₃'.extBut c o n e) D.s2TO (S2.raw_keep (fun c o n e => hs₂'.extBut c o n e) D.s2i1 (S2.raw_keep (fun c o n e => hs₁.extBut c o n e) D.s2z r2))) m2 fun h₄ e hs₄ he => ?_)
    obtain ⟨oe, hoe, hce⟩ := he
    have hz₄ : IsZip h₄ z TI TO .ellipsis := hs₄ _ _ D.i2z.symm (hs₃'.extBut _ _ D.TOz.symm (hs₂'.extBut _ _ D.i1z.symm hz₁))
    have hez : e ≠ z := fun x => by subst x; rw [hz₄] at hoe; cases hoe; simp at hce
    exact wpAny_setField_rec hz₄ (by simp) fun h₅ _ hs₅ => done h₅ _ e (fun c o c1 c2 c3 c4 x => hs₅.extBut _ _ c1 (hs₄ _ _ c4 (hs₃'.extBut _ _ c2 (hs₂'.extBut _ _ c3 (hs₁.extBut _ _ c1 x))))) ⟨oe, hs₅.extBut _ _ hez hoe, hce⟩
  · refine wpAny_bind (nextOf_end (S := S1) (us := us1) (k := k) hh (S1.at_keep (fun o e => hs₁.extBut _ o D.i1z e) h1) (S1.raw_keep (fun c o n e => hs₁.extBut c o n e) D.s1z r1) (by omega) fun h₂ e hs₂ he => ?_)
    obtain ⟨oe, hoe, hce⟩ := he
    have hz₂ : IsZip h₂ z TI TO .ellipsis := hs₂ _ _ D.i1z.symm hz₁
    have hez : e ≠ z := fun x => by subst x; rw [hz₂] at hoe; cases hoe; simp at hce
    exact wpAny_setField_rec hz₂ (by simp) fun h₃ _ hs₃ => done h₃ _ e (fun c o c1 _ c3 _ x => hs₃.extBut _ _ c1 (hs₂ _ _ c3 (hs₁.extBut _ _ c1 x))) ⟨oe, hs₃.extBut _ _ hez hoe, hce⟩
end
end L2

set_option Elab.async false
set_option linter.all false
set_option maxRecDepth 100000
namespace L2
open PySem PySem.Spec PyProof.Rows

/-- the iterator object that a thing gives -/
def Src.iter (tk : Tok) : Src → Obj
  | .l a => { cls := .type "list_iterator", data := .fields #[.ref a, .int 0 0] }
  | .t a => { cls := .type "tuple_iterator", data := .fields #[.ref a, .int 0 0] }
  | .s z => { cls := .type (strIterType z), data := .fields #[.str z tk, .int 0 0] }
def Src.value (tk : Tok) : Src → Value
  | .l a => .ref a
  | .t a => .ref a
  | .s z => .str z tk
theorem Src.iter_at {h : Heap} {i : Addr} {tk : Tok} : ∀ {S : Src}, h.get? i = some (S.iter tk) → S.at h i 0
  | .l _, e => ⟨_, e, rfl, rfl⟩
  | .t _, e => ⟨_, e, rfl, rfl⟩
  | .s _, e => ⟨tk, _, e, rfl, rfl⟩
theorem Src.pyIter {prog : Program} {w : World} {A : Around} {E : Value → Shared → Prop} {s : Shared} {tk : Tok} {us : List Value} {Q : Value → Shared → Prop} : ∀ {S : Src}, S.raw s.heap us →
    Q (.ref s.heap.objs.size) { s with heap := s.heap.push (S.iter tk) } → wpAny (model prog w) A (pyIter (S.value tk)) Q E s
  | .l _, r, q => wpAny_pyIter_list r q
  | .t _, r, q => wpAny_pyIter_tuple r q
  | .s _, _, q => wpAny_pyIter_strU q
theorem Src.raw_push {h : Heap} {ob : Obj} : ∀ {S : Src} {us : List Value}, S.raw h us → S.raw (h.push ob) us
  | .l _, _, ⟨o, e, d⟩ => ⟨o, Heap.get?_push_of_some _ e, d⟩
  | .t _, _, ⟨o, e, d⟩ => ⟨o, Heap.get?_push_of_some _ e, d⟩
  | .s _, _, _ => trivial

abbrev zH1 (h : Heap) (S1 : Src) (t1 : Tok) : Heap := h.push (S1.iter t1)
abbrev zH2 (h : Heap) (S1 S2 : Src) (t1 t2 : Tok) : Heap := (zH1 h S1 t1).push (S2.iter t2)
abbrev zH3 (h : Heap) (S1 S2 : Src) (t1 t2 : Tok) : Heap := (zH2 h S1 S2 t1 t2).push { cls := .type "tuple", data := .seq #[.ref h.objs.size, .ref (zH1 h S1 t1).objs.size] }
abbrev zH4 (h : Heap) (S1 S2 : Src) (t1 t2 : Tok) : Heap := (zH3 h S1 S2 t1 t2).push { cls := .type "tuple", data := .seq #[.none, .none] }
abbrev zH5 (h : Heap) (S1 S2 : Src) (t1 t2 : Tok) : Heap := (zH4 h S1 S2 t1 t2).push { cls := .type "zip", data := .fields #[.none, .bool false, .bool false, .ref (zH2 h S1 S2 t1 t2).objs.size, .ref (zH3 h S1 S2 t1 t2).objs.size] }

theorem zip_new (S1 S2 : Src) (t1 t2 : Tok) (us1 us2 : List Value) :
    Meets (Builtin.«zip.__new__» ⟨[.type "zip", S1.value t1, S2.value t2], []⟩) (fun _ R s => S1.raw s.heap us1 ∧ S2.raw s.heap us2 ∧
      R (.ok (.ret (.ref (zH4 s.heap S1 S2 t1 t2).objs.size))) { s with heap := zH5 s.heap S1 S2 t1 t2 }) :=
  .of_wp fun prog w A R s h => by
    obtain ⟨hp, g, d, tk, os⟩ := s; obtain ⟨r1, r2, h⟩ := h
    have hsub := sub_zip
    have q1 : ∀ {A : Around} {E : Value → Shared → Prop} {Q : Value → Shared → Prop}, Q (.ref hp.objs.size) ⟨zH1 hp S1 t1, g, d, tk, os⟩ → wpAny (model prog w) A (pyIter (S1.value t1)) Q E ⟨hp, g, d, tk, os⟩ :=
      fun {A E Q} q => Src.pyIter (s := ⟨hp, g, d, tk, os⟩) (us := us1) r1 q
    have q2 : ∀ {A : Around} {E : Value → Shared → Prop} {Q : Value → Shared → Prop}, Q (.ref (zH1 hp S1 t1).objs.size) ⟨zH2 hp S1 S2 t1 t2, g, d, tk, os⟩ → wpAny (model prog w) A (pyIter (S2.value t2)) Q E ⟨zH1 hp S1 t1, g, d, tk, os⟩ :=
      fun {A E Q} q => Src.pyIter (s := ⟨zH1 hp S1 t1, g, d, tk, os⟩) (us := us2) (S2.raw_push r2) q
    generalize S1.value t1 = v1 at q1 ⊢
    generalize S2.value t2 = v2 at q2 ⊢
    wp_walk using q1, q2
    exact ⟨_, rfl, h⟩

section
variable {prog : Program} {w : World} {A : Around} {E : Value → Shared → Prop} {s : Shared}
theorem zip_call {S1 S2 : Src} {t1 t2 : Tok} {us1 us2 : List Value} {Q : Value → Shared → Prop} (r1 : S1.raw s.heap us1) (r2 : S2.raw s.heap us2)
    (h : ∀ h', IsZip h' (s.heap.objs.size + 4) (s.heap.objs.size + 2) (s.heap.objs.size + 3) .none → IsPair h' (s.heap.objs.size + 2) (.ref s.heap.objs.size) (.ref (s.heap.objs.size + 1)) →
      IsPair h' (s.heap.objs.size + 3) .none .none → S1.at h' s.heap.objs.size 0 → S2.at h' (s.heap.objs.size + 1) 0 → h'.objs.size = s.heap.objs.size + 5 →
      (∀ c o, s.heap.get? c = some o → h'.get? c = some o) → Q (.ref (s.heap.objs.size + 4)) { s with heap := h' }) :
    wpAny (model prog w) A (call (.type "zip") [S1.value t1, S2.value t2]) Q E s := by
  refine callType_new F.called_zip (by decide) (F.typeCall_zip_2 _ _) (F.newCall_zip_2 _ _) (fun obj => F.args_object_init_3 obj _ _) F.entry_zip_new (zip_new S1 S2 t1 t2 us1 us2) ⟨r1, r2, ?_⟩
  have z1 : (zH1 s.heap S1 t1).objs.size = s.heap.objs.size + 1 := Heap.size_push ..
  have z2 : (zH2 s.heap S1 S2 t1 t2).objs.size = s.heap.objs.size + 2 := by rw [Heap.size_push, z1]
  have z3 : (zH3 s.heap S1 S2 t1 t2).objs.size = s.heap.objs.size + 3 := by rw [Heap.size_push, z2]
  have z4 : (zH4 s.heap S1 S2 t1 t2).objs.size = s.heap.objs.size + 4 := by rw [Heap.size_push, z3]
  have z5 : (zH5 s.heap S1 S2 t1 t2).objs.size = s.heap.objs.size + 5 := by rw [Heap.size_push, z4]
  have fr : ∀ (tk : Tok) (S : Src), (S.iter tk).isFreed = false := fun tk S => by cases S <;> rfl
  have g5 : (zH5 s.heap S1 S2 t1 t2).get? (zH4 s.heap S1 S2 t1 t2).objs.size = some _ := Heap.get?_push_size _ rfl
  have g4 : (zH5 s.heap S1 S2 t1 t2).get? (zH3 s.heap S1 S2 t1 t2).objs.size = some _ := Heap.get?_push_of_some _ (Heap.get?_push_size _ rfl)
  have g3 : (zH5 s.heap S1 S2 t1 t2).get? (zH2 s.heap S1 S2 t1 t2).objs.size = some _ := Heap.get?_push_of_some _ (Heap.get?_push_of_some _ (Heap.get?_push_size _ rfl))
  have g2 : (zH5 s.heap S1 S2 t1 t2).get? (zH1 s.heap S1 t1).objs.size = some (S2.iter t2) := Heap.get?_push_of_some _ (Heap.get?_push_of_some _ (Heap.get?_push_of_some _ (Heap.get?_push_size _ (fr _ _))))
  have g1 : (zH5 s.heap S1 S2 t1 t2).get? s.heap.objs.size = some (S1.iter t1) := Heap.get?_push_of_some _ (Heap.get?_push_of_some _ (Heap.get?_push_of_some _ (Heap.get?_push_of_some _ (Heap.get?_push_size _ (fr _ _)))))
  show _ ∧ _
  rw [z2, z3, z4] at g5
  rw [z1, z2] at g3
  rw [z3] at g4
  rw [z1] at g2
  rw [z4]
  exact ⟨⟨_, g5, rfl⟩, h _ g5 g3 g4 (Src.iter_at g1) (Src.iter_at g2) z5 fun c o x =>
    Heap.get?_push_of_some _ (Heap.get?_push_of_some _ (Heap.get?_push_of_some _ (Heap.get?_push_of_some _ (Heap.get?_push_of_some _ x))))⟩
end

/-- zip's turns: a new pair each -/
def Itz (K : PySem.W.Frag) (S1 S2 : Src) : It :=
  ⟨fun i H => ∃ xs ys, S1.its K H xs ∧ S2.its K H ys ∧ i < xs.length ∧ i < ys.length,
   fun i H v H' => ∃ p, H p = none ∧ v = .ref p ∧ ∀ xs ys, S1.its K H xs → S2.its K H ys → ∀ x y, xs[i]? = some x → ys[i]? = some y → H' = upd H p (.tup [x, y]),
   fun i H => ∃ xs ys, S1.its K H xs ∧ S2.its K H ys ∧ (xs.length ≤ i ∨ ys.length ≤ i)⟩

section
variable {X : Cx} {pins : List (Addr × Obj)} {σ : St} {H : Hp} {s : Shared}
/-- the items, raw -/
theorem Inv.src (I : Inv X pins σ H s) : ∀ {S : Src} {xs : List V}, S.its X.K H xs → ∃ us, S.raw s.heap us ∧ S.many us = xs.length ∧ ∀ k u x, S.fit us k u → xs[k]? = some x → RelV x u
  | .l a, xs, h => by
    obtain ⟨its, rv, pl, _⟩ := I.list h
    refine ⟨its, pl.isList, rv.length.symm, fun k u x e1 e2 => ?_⟩
    obtain ⟨u', e3, r⟩ := rv.get e2
    rw [show its[k]? = some u from e1] at e3; cases e3
    exact r
  | .t a, xs, h => by
    obtain ⟨its, rv, pl, _⟩ := I.tuple h
    refine ⟨its, pl, rv.length.symm, fun k u x e1 e2 => ?_⟩
    obtain ⟨u', e3, r⟩ := rv.get e2
    rw [show its[k]? = some u from e1] at e3; cases e3
    exact r
  | .s z, xs, h => by
    refine ⟨[], trivial, ?_, fun k u x e1 e2 => ?_⟩
    · rw [show xs = _ from h, List.length_map]; simp [Src.many]
    · obtain ⟨c, tk, e3, e4⟩ := e1
      subst e4
      rw [show xs = _ from h, List.getElem?_map] at e2
      have e5 : z.cps.toList[k]? = some c := by simpa using e3
      rw [e5] at e2
      cases e2
      exact ⟨tk, rfl⟩
/-- a thing stands where something is, tracked or the module's: not at an untracked record of ours -/
theorem Inv.src_off (I : Inv X pins σ H s) {b : Addr} (hb : FpOk X pins H b) : ∀ {S : Src} {xs : List V}, S.its X.K H xs → S.off b
  | .l a, xs, h => by
    rcases h with (h | ⟨ob, h⟩) | ⟨o, its, n, hk, _⟩
    · exact ne_of_none h hb.1
    · exact ne_of_none h hb.1
    · rintro rfl
      have e := I.ok.mod.kin a o hk
      rcases hb.2.2.2.1 with z | z
      · exact I.ok.noex a o e z
      · exact absurd (Nat.lt_of_lt_of_le (Heap.lt_size e) (Nat.le_trans I.ok.bsz z)) (Nat.lt_irrefl _)
  | .t a, xs, h => by
    rcases h with (h | ⟨ob, h⟩) | ⟨o, its, n, hk, _⟩
    · exact ne_of_none h hb.1
    · exact ne_of_none h hb.1
    · rintro rfl
      have e := I.ok.mod.kin a o hk
      rcases hb.2.2.2.1 with z | z
      · exact I.ok.noex a o e z
      · exact absurd (Nat.lt_of_lt_of_le (Heap.lt_size e) (Nat.le_trans I.ok.bsz z)) (Nat.lt_irrefl _)
  | .s z, xs, h => trivial

/-- records of ours have turned, a new pair has been laid -/
theorem Inv.zipped {fp : List Addr} {h' : Heap} {tk : Nat} {x y : V} {u v : Value} (I : Inv X pins σ H s) (hf : ∀ b ∈ fp, FpOk X pins H b) (rx : RelV x u) (ry : RelV y v)
    (hp : IsPair h' s.heap.objs.size u v) (hfh : ∀ b ∈ fp, ∃ o, h'.get? b = some o) (hk : ∀ c o, c ∉ fp → s.heap.get? c = some o → h'.get? c = some o) :
    Inv X pins σ (upd H s.heap.objs.size (.tup [x, y])) { s with heap := h', toks := tk } := by
  have hn : H s.heap.objs.size = none := I.fresh
  have ne : ∀ b ob, s.heap.get? b = some ob → b ≠ s.heap.objs.size := fun b ob e => Nat.ne_of_lt (Heap.lt_size e)
  have nt : ∀ b u, H b = some u → b ≠ s.heap.objs.size := fun b u e => ne_of_none e hn
  have nfp : ∀ b u, H b = some u → b ∉ fp := fun b u e hb => by rw [(hf b hb).1] at e; cases e
  refine I.step (g' := s.gens) (d' := s.drawn) (ch := fp) (fun b hb => ⟨(hf b hb).2.2.2.1, (hf b hb).2.1, (hf b hb).2.2.2.2.1, (hf b hb).2.2.2.2.2⟩)
    (fun b ob _ _ hc e _ => hk b ob hc e) (fun b ob _ _ hc e _ => ⟨ob.slots, hk b ob hc e⟩) (fun b ob _ e n => by rw [upd_ne (ne b ob e)]; exact n) (fun b ob hc e => ⟨ob, hk b ob hc e⟩)
    (fun b xs e => by rw [upd_ne (nt b _ e)]; exact e) (fun b ob u e => by rw [upd_ne (nt b _ e)]; exact e) (fun b ps e => ⟨#[], by rw [upd_ne (nt b _ e), e]; simp⟩) (fun m hm => ?_) (fun b ub e => ?_) I.bare
  · obtain ⟨ob, es, ep, ho, r⟩ := hm
    exact ⟨ob, es, ep, hk _ ob (fun z => (hf _ z).2.1 rfl) ho, r⟩
  · by_cases hb : b = s.heap.objs.size
    · subst hb
      rw [upd_same] at e; cases e
      exact ⟨by show 2 ≤ sizeLine; decide, [u, v], .cons rx (.cons ry .nil), ⟨_, hp, rfl, _, rfl⟩⟩
    · rw [upd_ne hb] at e
      refine (I.hok b ub e).stay (fun c w' hc q => hk c w' ?_ q) (fun c q => by rw [upd_ne (nt c _ q)]; exact q) fun c xs q => by rw [upd_ne (nt c _ q)]; exact q
      rcases hc with z | z
      · rw [z]; exact nfp b ub e
      · exact nfp c _ z
end

theorem turn_zip {P : Program} {w : World} {K : PySem.W.Frag} {elts : List Expr} {x1 : Nat} {tpos : Pos} {S1 S2 : Src} {z TI TO i1 i2 : Addr}
    (d1 : TI ≠ z) (d2 : TO ≠ z) (d3 : i1 ≠ z) (d4 : i2 ≠ z) (d5 : TI ≠ TO) (d6 : TI ≠ i1) (d7 : TI ≠ i2) (d8 : TO ≠ i1) (d9 : TO ≠ i2) (d10 : i1 ≠ i2) :
    Turn P w K (.Tuple elts x1 tpos) (Itz K S1 S2) [z, TI, TO, i1, i2] z
      (fun i h => IsZip h z TI TO .none ∧ IsPair h TI (.ref i1) (.ref i2) ∧ (∃ a b, IsPair h TO a b) ∧ S1.at h i1 i ∧ S2.at h i2 i) where
  mem := by simp
  obj := fun i h st b hb => by
    obtain ⟨hz, hTI, ⟨a, b', hTO⟩, h1, h2⟩ := st
    have nf : ∀ {o : Obj} {vs : Array Value}, o.data = .fields vs → ∀ v, o.data ≠ .cell v := fun d v e => by rw [d] at e; cases e
    simp only [List.mem_cons, List.not_mem_nil, or_false] at hb
    rcases hb with rfl | rfl | rfl | rfl | rfl
    · exact ⟨_, hz, nf rfl⟩
    · exact ⟨_, hTI, fun v e => by cases e⟩
    · exact ⟨_, hTO, fun v e => by cases e⟩
    · obtain ⟨o, vs, e, d⟩ := Src.at_obj h1; exact ⟨o, e, nf d⟩
    · obtain ⟨o, vs, e, d⟩ := Src.at_obj h2; exact ⟨o, e, nf d⟩
  keep := fun i h h' st k => by
    obtain ⟨hz, hTI, ⟨a, b', hTO⟩, h1, h2⟩ := st
    exact ⟨k z (by simp) _ hz, k TI (by simp) _ hTI, ⟨a, b', k TO (by simp) _ hTO⟩, Src.at_keep (fun o e => k i1 (by simp) o e) h1, Src.at_keep (fun o e => k i2 (by simp) o e) h2⟩
  item := by
    intro X hP hw hK hc i pins s σ H E I hf st hg
    subst hP hw hK
    obtain ⟨hz, hTI, ⟨a, b', hTO⟩, h1, h2⟩ := st
    obtain ⟨xs, ys, q1, q2, l1, l2⟩ := hg
    obtain ⟨us1, r1, m1, f1⟩ := I.src q1
    obtain ⟨us2, r2, m2, f2⟩ := I.src q2
    have hfz := hf z (by simp)
    have D : ZipOff z TI TO i1 i2 S1 S2 := ⟨d1, d2, d3, d4, d5, d6, d7, d8, d9, d10, I.src_off hfz q1, I.src_off (hf TO (by simp)) q1, I.src_off (hf i1 (by simp)) q1, I.src_off (hf i2 (by simp)) q1,
      I.src_off hfz q2, I.src_off (hf TO (by simp)) q2, I.src_off (hf i1 (by simp)) q2, I.src_off (hf i2 (by simp)) q2⟩
    refine zip_step D hz hTI hTO h1 h2 r1 r2 (by omega) (by omega) fun h' tk x y fx fy a1 a2 a3 a4 a5 a6 a7 => ?_
    have rx := f1 i x _ fx (List.getElem?_eq_getElem l1)
    have ry := f2 i y _ fy (List.getElem?_eq_getElem l2)
    refine ⟨_, rfl, wpAny_letOwnedTupleGo_zip a1 fun h'' hz'' hs'' => ?_⟩
    have hs' : Heap.SameBut z h' h'' := hs''
    have hTI' : IsPair h' TI (.ref i1) (.ref i2) := a7 _ _ d1 d5 d6 d7 hTI
    have lt : ∀ {b : Addr} {o : Obj}, s.heap.get? b = some o → s.heap.objs.size ≠ b := fun e => Nat.ne_of_gt (Heap.lt_size e)
    have hzs : s.heap.objs.size ≠ z := lt hz
    have I2 : Inv X pins σ (upd H s.heap.objs.size (.tup [xs[i], ys[i]])) { s with heap := h'', toks := tk } := by
      refine I.zipped (fp := [z, TI, TO, i1, i2]) hf rx ry (hs'.extBut _ _ hzs a5) (fun b hb => ?_) fun c o hc e => ?_
      · simp only [List.mem_cons, List.not_mem_nil, or_false] at hb
        rcases hb with rfl | rfl | rfl | rfl | rfl
        · exact ⟨_, hz''⟩
        · exact ⟨_, hs'.extBut _ _ d1 hTI'⟩
        · exact ⟨_, hs'.extBut _ _ d2 a2⟩
        · obtain ⟨o, vs, e, _⟩ := Src.at_obj a3; exact ⟨o, hs'.extBut _ _ d3 e⟩
        · obtain ⟨o, vs, e, _⟩ := Src.at_obj a4; exact ⟨o, hs'.extBut _ _ d4 e⟩
      · simp only [List.mem_cons, List.not_mem_nil, or_false, not_or] at hc
        exact hs'.extBut _ _ hc.1 (a7 c o hc.1 hc.2.2.1 hc.2.2.2.1 hc.2.2.2.2 e)
    refine ⟨.ref s.heap.objs.size, _, I2, rfl, ⟨s.heap.objs.size, I.fresh, rfl, fun xs' ys' w1 w2 x' y' e1 e2 => ?_⟩, ⟨hz'', hs'.extBut _ _ d1 hTI', ⟨_, _, hs'.extBut _ _ d2 a2⟩, Src.at_keep (fun o e => hs'.extBut _ o d3 e) a3, Src.at_keep (fun o e => hs'.extBut _ o d4 e) a4⟩, fun b hb => ?_⟩
    · have same : ∀ {S : Src} {us vs : List V}, S.its X.K H us → S.its X.K H vs → us = vs := fun {S us vs} p q => by
        cases S with
        | l a => exact I.list_inj p q
        | t a => exact I.tuple_inj p q
        | s z => rw [show us = _ from p, show vs = _ from q]
      have e3 := same w1 q1
      have e4 := same w2 q2
      subst e3; subst e4
      rw [List.getElem?_eq_getElem l1] at e1
      rw [List.getElem?_eq_getElem l2] at e2
      cases e1; cases e2
      rfl
    · rw [upd_ne (fun e => by
        obtain ⟨o, e1, _⟩ : ∃ o, s.heap.get? b = some o ∧ True := by
          simp only [List.mem_cons, List.not_mem_nil, or_false] at hb
          rcases hb with rfl | rfl | rfl | rfl | rfl
          · exact ⟨_, hz, trivial⟩
          · exact ⟨_, hTI, trivial⟩
          · exact ⟨_, hTO, trivial⟩
          · obtain ⟨o, vs, e, _⟩ := Src.at_obj h1; exact ⟨o, e, trivial⟩
          · obtain ⟨o, vs, e, _⟩ := Src.at_obj h2; exact ⟨o, e, trivial⟩
        exact lt e1 e.symm)]
      exact (hf b hb).1
  done := by
    intro X hP hw hK hc i pins s σ H E I hf st hg
    subst hP hw hK
    obtain ⟨hz, hTI, ⟨a, b', hTO⟩, h1, h2⟩ := st
    obtain ⟨xs, ys, q1, q2, l⟩ := hg
    obtain ⟨us1, r1, m1, f1⟩ := I.src q1
    obtain ⟨us2, r2, m2, f2⟩ := I.src q2
    have hfz := hf z (by simp)
    have D : ZipOff z TI TO i1 i2 S1 S2 := ⟨d1, d2, d3, d4, d5, d6, d7, d8, d9, d10, I.src_off hfz q1, I.src_off (hf TO (by simp)) q1, I.src_off (hf i1 (by simp)) q1, I.src_off (hf i2 (by simp)) q1,
      I.src_off hfz q2, I.src_off (hf TO (by simp)) q2, I.src_off (hf i1 (by simp)) q2, I.src_off (hf i2 (by simp)) q2⟩
    refine zip_stop (I.ok.hd hc) D hz hTI hTO h1 h2 r1 r2 (by omega) fun h' tk hk => ⟨rfl, ?_⟩
    have kf : ∀ c o, c ∉ [z, TI, TO, i1, i2] → s.heap.get? c = some o → h'.get? c = some o := fun c o hc e => by
      simp only [List.mem_cons, List.not_mem_nil, or_false, not_or] at hc
      exact hk c o hc.1 hc.2.2.1 hc.2.2.2.1 hc.2.2.2.2 e
    have nfp : ∀ b u, H b = some u → b ∉ [z, TI, TO, i1, i2] := fun b u e hb => by rw [(hf b hb).1] at e; cases e
    refine I.step (g' := s.gens) (d' := s.drawn) (ch := [z, TI, TO, i1, i2]) (fun b hb => ⟨(hf b hb).2.2.2.1, (hf b hb).2.1, (hf b hb).2.2.2.2.1, (hf b hb).2.2.2.2.2⟩)
      (fun b ob _ _ hc e _ => kf b ob hc e) (fun b ob _ _ hc e _ => ⟨ob.slots, kf b ob hc e⟩) (fun b ob _ e n => n) (fun b ob hc e => ⟨ob, kf b ob hc e⟩)
      (fun b xs e => e) (fun b ob u e => e) (fun b ps e => ⟨#[], by rw [e]; simp⟩) (fun m hm => ?_) (fun b ub e => ?_) I.bare
    · obtain ⟨ob, es, ep, ho, r⟩ := hm
      exact ⟨ob, es, ep, kf _ ob (fun z => (hf _ z).2.1 rfl) ho, r⟩
    · refine (I.hok b ub e).stay (fun c w' hc q => kf c w' ?_ q) (fun c q => q) fun c xs q => q
      rcases hc with z' | z'
      · rw [z']; exact nfp b ub e
      · exact nfp c _ z'
  self := fun _ _ _ _ _ st h => wpAny_pyIter_zip st.1 h

def iZip (K : PySem.W.Frag) (ta : TA) : TI := fun σ H R => ta σ H fun vs H1 => ∃ S1 S2 xs ys, vs = [Src.val S1, Src.val S2] ∧ S1.its K H1 xs ∧ S2.its K H1 ys ∧ R (Itz K S1 S2) H1
theorem pi_zip {X : Cx} {a b : Expr} {ta : TA} {p pos : Pos} {elts : List Expr} {x1 : Nat} {tpos : Pos} (hg : Gl X "zip") (hm : X.mg "zip" = none) (ha : PA X [a, b] ta)
    (hs : starEach [a, b] X.env = [(false, eval a X.env), (false, eval b X.env)] := by rfl) (hs2 : starEach [b] X.env = [(false, eval b X.env)] := by rfl) :
    PI X (.Tuple elts x1 tpos) (.Call (.Name "zip" p) [a, b] [] pos) (iZip X.K ta) := by
  intro pins s σ H R I h
  refine Call_ (ld_blt I hg hm boot_zip (PyProof.Rows.callWith_type1 (thn (ha pos pins s σ H _ I h) fun us s1 ⟨vs, H1, I1, r1, q1⟩ => ?_) (by rw [hs, hs2]) (by rw [hs2]; rfl)))
  obtain ⟨S1, S2, xs, ys, e, y1, y2, q⟩ := q1
  subst e
  obtain ⟨u1, u2, rfl, w1, w2⟩ := r1.two
  have vo : ∀ {S : Src} {u : Value}, RelV S.val u → ∃ tk, u = S.value tk := fun {S u} r => by
    cases S with
    | l a => exact ⟨0, r⟩
    | t a => exact ⟨0, r⟩
    | s z => obtain ⟨tk, e⟩ := r; exact ⟨tk, e⟩
  obtain ⟨t1, rfl⟩ := vo w1
  obtain ⟨t2, rfl⟩ := vo w2
  obtain ⟨us1, r1, m1, f1⟩ := I1.src y1
  obtain ⟨us2, r2, m2, f2⟩ := I1.src y2
  refine zip_call r1 r2 fun h' hz hTI hTO a1 a2 a3 hk => wpAny_pyIter_zip hz ?_
  have I2 : Inv X pins σ H1 { s1 with heap := h' } := I1.kept (t' := s1.toks) hk
  have n := s1.heap.objs.size
  refine ⟨_, _, _, _, H1, rfl, I2, turn_zip (S1 := S1) (S2 := S2) (z := s1.heap.objs.size + 4) (TI := s1.heap.objs.size + 2) (TO := s1.heap.objs.size + 3) (i1 := s1.heap.objs.size) (i2 := s1.heap.objs.size + 1)
    (Nat.ne_of_lt (Nat.add_lt_add_left (by decide) _)) (Nat.ne_of_lt (Nat.add_lt_add_left (by decide) _)) (Nat.ne_of_lt (Nat.lt_add_of_pos_right (by decide))) (Nat.ne_of_lt (Nat.add_lt_add_left (by decide) _))
    (Nat.ne_of_lt (Nat.add_lt_add_left (by decide) _)) (Nat.ne_of_gt (Nat.lt_add_of_pos_right (by decide))) (Nat.ne_of_gt (Nat.add_lt_add_left (by decide) _)) (Nat.ne_of_gt (Nat.lt_add_of_pos_right (by decide)))
    (Nat.ne_of_gt (Nat.add_lt_add_left (by decide) _)) (Nat.ne_of_lt (Nat.lt_add_of_pos_right (by decide))), ⟨hz, hTI, ⟨_, _, hTO⟩, a1, a2⟩, fun b hb => ?_, q⟩
  have hb' : s1.heap.objs.size ≤ b := by
    simp only [List.mem_cons, List.not_mem_nil, or_false] at hb
    rcases hb with rfl | rfl | rfl | rfl | rfl
    · exact Nat.le_add_right _ 4
    · exact Nat.le_add_right _ 2
    · exact Nat.le_add_right _ 3
    · exact Nat.le_refl _
    · exact Nat.le_add_right _ 1
  exact I1.fpOk hb' (I1.hok.fresh hb')
end L2

set_option Elab.async false
set_option linter.all false
set_option maxRecDepth 100000
/-! MY LAYER, 6: the same rules with K written, defs of the text in one word, and the forms of comprehensions that are used -/
namespace L2
open PySem PySem.Spec PyProof.Rows
section
variable {X : Cx} (K : PySem.W.Frag)
theorem ixL (h : X.K = K := by rfl) : IxR X (rIxL K) := by subst h; exact ix_list
theorem ixT (h : X.K = K := by rfl) : IxR X (rIxT K) := by subst h; exact ix_tup
theorem slL (h : X.K = K := by rfl) : SlR X (rSlL K) := by subst h; exact sl_list
def rLenQ : List V → Hp → VK → Prop := fun xs H Q => ∃ p ys, xs = [.ref p] ∧ (SqL K H p ys ∨ SqT K H p ys) ∧ Q (.int ys.length) H
theorem lenQ (h : X.K = K := by rfl) : CallR X (.builtin "len") (rLenQ K) := by subst h; exact call_len_seq
theorem isiQ (h : X.K = K := by rfl) : CallR X (.builtin "isinstance") (rIsi K) := by subst h; exact call_isi
def rAllQ : List V → Hp → VK → Prop := fun xs H Q => ∃ (p : Addr) (bs : List Bool), xs = [.ref p] ∧ SqL K H p (bs.map V.bl) ∧ Q (.bl (bs.all id)) H
theorem allQ (hc : X.calm = true := by rfl) (h : X.K = K := by rfl) : CallR X (.builtin "all") (rAllQ K) := by subst h; exact call_all hc
def rSrtI : List V → Hp → VK → Prop := fun xs H Q => ∃ (p : Addr) (ns : List Int), xs = [.ref p] ∧ SqL K H p (ns.map V.int) ∧ ns.length < 64 ∧
    ∀ (l : Addr) (ns' : List Int), H l = none → ns'.Perm ns → ns'.Pairwise (· ≤ ·) → Q (.ref l) (upd H l (.lst (ns'.map V.int)))
theorem srtI (h : X.K = K := by rfl) : CallR X (.builtin "sorted") (rSrtI K) := by subst h; exact call_sortedI
def rSrtS : List V → Hp → VK → Prop := fun xs H Q => ∃ (p : Addr) (ss : List Str), xs = [.ref p] ∧ SqL K H p (ss.map V.str) ∧ ss.length < 64 ∧
    ∀ (l : Addr) (ss' : List Str), H l = none → ss'.Perm ss → sortedS ss' = true → Q (.ref l) (upd H l (.lst (ss'.map V.str)))
def rJoin : V → List V → Hp → VK → Prop := fun x vs H Q => ∃ (sep : Str) (p : Addr) (ys : List Str), x = .str sep ∧ vs = [.ref p] ∧ SqL K H p (ys.map V.str) ∧ (ys.map (·.length)).sum + ys.length * sep.length ≤ 16777216 ∧ Q (.str (Txt.join sep ys)) H
theorem joinQ (h : X.K = K := by rfl) : MtR X "str.join" (rJoin K) := by subst h; exact mt_join
theorem iL {tg l : Expr} {tl : TE} (hl : PE X l tl) (h : X.K = K := by rfl) : PI X tg l (iList K tl) := by subst h; exact pi_list hl
theorem iT {tg l : Expr} {tl : TE} (hl : PE X l tl) (h : X.K = K := by rfl) : PI X tg l (iTup K tl) := by subst h; exact pi_tup hl
theorem gT {es : List Expr} {k : Nat} {t : TGs} {n : Nat} {pos : Pos} (h : PGs X es t) (hK : X.K = K := by rfl) (hc : X.calm = true := by rfl)
    (hn : (assignEach es X.env).length = n := by rfl) (hst : (assignEach es X.env).findIdx? (·.1) = none := by rfl) : PG X (.Tuple es k pos) (gTup K n t) := by subst hK; exact pg_tup hc h hn hst
theorem iZ {a b : Expr} {ta : TA} {p pos : Pos} {elts : List Expr} {x1 : Nat} {tpos : Pos} (hm : X.mg "zip" = none) (ha : PA X [a, b] ta) (hg : Gl X "zip" := by rfl) (hK : X.K = K := by rfl)
    (hs : starEach [a, b] X.env = [(false, eval a X.env), (false, eval b X.env)] := by rfl) (hs2 : starEach [b] X.env = [(false, eval b X.env)] := by rfl) :
    PI X (.Tuple elts x1 tpos) (.Call (.Name "zip" p) [a, b] [] pos) (iZip K ta) := by subst hK; exact pi_zip hg hm ha hs hs2
end

/-- a def of the text, with its promise -/
structure Df (P : Program) (w : World) (K : PySem.W.Frag) (mg : Str → Option Value) (base : Heap) (k : Nat) (x : Str) (ps : List Str) (sp : Sp) : Prop where
  ex : ∃ f fd, FnOk P w K mg base CX0 k f fd ps sp ∧ mg x = some (.ref f) ∧ PySem.W.keepIn K (.ref f) = true ∧ Binds K fd ps []
section
variable {P : Program} {w : World} {K : PySem.W.Frag} {mg : Str → Option Value} {base : Heap}
/-- what the top has made of a def -/
structure Top (K : PySem.W.Frag) (mg : Str → Option Value) (x : Str) (st : Stmt) (ps : List Str) : Prop where
  ex : ∃ f fd, Fun K x x st f fd ∧ mg x = some (.ref f) ∧ Binds K fd ps []
theorem Top.df {x : Str} {st : Stmt} {N ps : List Str} {k : Nat} {sp : Sp} (T : Top K mg x st ps) (S : FnScope N ps (defScope st)) (len : ∀ vs H Q E, sp vs H Q E → vs.length = ps.length)
    (hbody : ∀ (cdv : Value) (f : Addr) (A : Around) (outer : List Env) (s : Shared) (H : Hp) (vs : List V) (Q : VK) (E : XK), Room k (A.deeper (envOfC x (defScope st) s.heap.objs.size f cdv)) → sp vs H Q E →
      ∃ t, PSs (cxOf CX0 P w K mg base N x (defScope st) f cdv A outer s H E).nox (defBody st) t ∧ t { nx := fun _ H' => Q .non H', rt := Q } (start N vs) H) : Df P w K mg base (k + 1) x ps sp := by
  obtain ⟨f, fd, F, m, b⟩ := T.ex
  exact ⟨f, fd, F.ok S len (fun cdv A outer s H vs Q E hr h => hbody cdv f A outer s H vs Q E hr h), m, F.kp, b⟩
end
section
variable {X : Cx} {k j : Nat} {x : Str} {ps : List Str} {sp : Sp} {e : Expr} {es : List Expr} {t : TA} {p pos : Pos}
theorem pe_df (F : Df X.prog X.w X.K X.mg X.base k x ps sp) (hr : Room j X.A) (ha : PA X (e :: es) t) (hjk : k ≤ j := by decide) (hg : Gl X x := by rfl) (hdb : (x == ("__debug__" : Str)) = false := by decide)
    (he : starEach (e :: es) X.env = (false, eval e X.env) :: starEach es X.env := by rfl) (hpl : (backTo pos (starEach es X.env)).any (·.1) = false := by rfl) :
    PE X (.Call (.Name x p) (e :: es) [] pos) (tCall sp [] E0 t) := by
  obtain ⟨f, fd, F, m, kp, b⟩ := F.ex
  exact pe_call F (hr.mono hjk) hg m kp b .nil pass0 ha hdb he hpl
/-- a built-in type's name as a value -/
theorem pe_ty {T : String} (hm : X.mg x = none) (hv : bootBuiltins x = some (.type T)) (hg : Gl X x := by rfl) (hn : x ≠ "__name__" := by decide) (hd : (x == ("__debug__" : Str)) = false := by decide) : PE X (.Name x pos) (tC (.ty T)) :=
  pe_bltn hg hm hv rfl hn hd
end

/-! ### comprehensions, the forms -/
theorem comp_range {lo : Int} {n k : Nat} {D : Addr} {σ : St} {H1 : Hp} {g : TG} {te : TE} {Q : VK} (Pv : Nat → List V → St → Hp → Prop) (h0 : Pv 0 [] (σ ++ List.replicate k none) (upd H1 D (.lst [])))
    (hs : ∀ i ys σ H, i < n → Pv i ys σ H → g (.int (lo + i)) σ H fun σ4 H4 => te σ4 H4 fun y H6 => H6 D = some (.lst ys) ∧ ys.length < sizeLine ∧ Pv (i + 1) (ys ++ [y]) σ4 (upd H6 D (.lst (ys ++ [y]))))
    (hd : ∀ ys σ H, Pv n ys σ H → Q (.ref D) H) : CompGo (Itr lo n) D k σ H1 g tYes te Q := by
  refine ⟨fun i m ys σ H => m = n - i ∧ i ≤ n ∧ Pv i ys σ H, ⟨n, by simp, Nat.zero_le _, h0⟩, ?_⟩
  rintro i m ys σ H ⟨rfl, hi, p⟩
  by_cases hlt : i < n
  · refine .inr ⟨hlt, Pv (i + 1), fun ys' σ' H' p' => ⟨n - (i + 1), by omega, rfl, hlt, p'⟩, fun x H' y => ?_⟩
    obtain ⟨e, y⟩ := y
    subst e y
    simp only [tYes, ↓reduceIte]
    exact hs i ys σ _ hlt p
  · have e : i = n := by omega
    subst e
    exact .inl ⟨Nat.le_refl _, hd ys σ H p⟩
/-- for over zip -/
theorem for_zip {K : PySem.W.Frag} {S1 S2 : Src} {xs ys : List V} {g : TG} {tb : TS} {D : Ends} {σ : St} {H : Hp} (Pv : Nat → St → Hp → Prop) (h0 : Pv 0 σ H) (hl : ∀ i σ H, Pv i σ H → S1.its K H xs ∧ S2.its K H ys)
    (hs : ∀ i x y σ H p, xs[i]? = some x → ys[i]? = some y → Pv i σ H → H p = none → g (.ref p) σ (upd H p (.tup [x, y])) fun σ2 H2 => tb { D with nx := Pv (i + 1), ct := Pv (i + 1), bk := D.nx } σ2 H2) (hd : ∀ σ H, Pv (min xs.length ys.length) σ H → D.nx σ H) :
    ∃ W : Nat → Nat → St → Hp → Prop, (∃ m, W 0 m σ H) ∧ ∀ i m σ H, W i m σ H →
      ((Itz K S1 S2).stop i H ∧ D.nx σ H) ∨ ((Itz K S1 S2).go i H ∧ ∃ N : St → Hp → Prop, (∀ σ' H', N σ' H' → ∃ m', m' < m ∧ W (i + 1) m' σ' H') ∧ ∀ x H', (Itz K S1 S2).yld i H x H' → g x σ H' fun σ2 H2 => tb { D with nx := N, ct := N, bk := D.nx } σ2 H2) := by
  refine ⟨fun i m σ H => m = min xs.length ys.length - i ∧ i ≤ min xs.length ys.length ∧ Pv i σ H, ⟨min xs.length ys.length, by simp, Nat.zero_le _, h0⟩, ?_⟩
  rintro i m σ H ⟨rfl, hi, p⟩
  obtain ⟨q1, q2⟩ := hl i σ H p
  by_cases hlt : i < min xs.length ys.length
  · have l1 : i < xs.length := by omega
    have l2 : i < ys.length := by omega
    refine .inr ⟨⟨xs, ys, q1, q2, l1, l2⟩, Pv (i + 1), fun σ' H' p' => ⟨min xs.length ys.length - (i + 1), by omega, rfl, hlt, p'⟩, fun x H' y => ?_⟩
    obtain ⟨r, hr, rfl, e⟩ := y
    have e' := e xs ys q1 q2 _ _ (List.getElem?_eq_getElem l1) (List.getElem?_eq_getElem l2)
    subst e'
    exact hs i _ _ σ H r (List.getElem?_eq_getElem l1) (List.getElem?_eq_getElem l2) p hr
  · have e : i = min xs.length ys.length := by omega
    exact .inl ⟨⟨xs, ys, q1, q2, by omega⟩, hd σ H (e ▸ p)⟩
end L2

set_option Elab.async false
set_option linter.all false
set_option maxRecDepth 100000
/-! MY LAYER, 7: names within a block, by closed facts -/
namespace L2
open PySem PySem.Spec PyProof.Rows
section
variable {X : Cx} {N N' : List Str} {o c : Scope} {x : Str} {pos : Pos} {C : Addr} {s : Shared} {H : Hp} {fp : List Addr}
theorem comp_local (S : CompSc N N' o c) (ho : X.env.scope = o) (hl : c.names.lookup x = some .local) : (compCx X c N' C s H fp).env.scope.names.lookup x = some .local := by
  have e := comp_kind (X := X) S ho (clOf X.env.cells c.names []) C x
  rw [hl] at e
  exact e
theorem comp_glob (S : CompSc N N' o c) (ho : X.env.scope = o) (hl : c.names.lookup x = some .globalImplicit) : Gl (compCx X c N' C s H fp) x := by
  have e := comp_kind (X := X) S ho (clOf X.env.cells c.names []) C x
  rw [hl] at e
  exact e
theorem comp_vis (S : CompSc N N' o c) (ho : X.env.scope = o) (hl : c.names.lookup x = some .free) : Vis (compCx X c N' C s H fp).env.scope x := by
  have e := comp_kind (X := X) S ho (clOf X.env.cells c.names []) C x
  rw [hl] at e
  have e' : (compCx X c N' C s H fp).env.scope.names.lookup x = if X.env.kindOf x = some .cell then some NameKind.cell else some NameKind.free := e
  by_cases z : X.env.kindOf x = some .cell
  · rw [if_pos z] at e'; exact .inr (.inl e')
  · rw [if_neg z] at e'; exact .inr (.inr e')
/-- a captured name -/
theorem cv (i : Nat) (S : CompSc N N' o c) (ho : X.env.scope = o) (hl : c.names.lookup x = some .free) (hN : N'[i]? = some x := by rfl) (hd : (x == ("__debug__" : Str)) = false := by decide) (hcd : (x == ("__classdict__" : Str)) = false := by decide) :
    PE (compCx X c N' C s H fp) (.Name x pos) (tVar i) := pe_var hN (comp_vis S ho hl) hd hcd
/-- the block's own name -/
theorem cw (i : Nat) (S : CompSc N N' o c) (ho : X.env.scope = o) (hl : c.names.lookup x = some .local) (hN : N'[i]? = some x := by rfl) (hd : (x == ("__debug__" : Str)) = false := by decide) (hcd : (x == ("__classdict__" : Str)) = false := by decide) :
    PE (compCx X c N' C s H fp) (.Name x pos) (tVar i) := pe_var hN (.inl (comp_local S ho hl)) hd hcd
theorem cg (i : Nat) (S : CompSc N N' o c) (ho : X.env.scope = o) (hl : c.names.lookup x = some .local) (hi : N'[i]? = some x := by rfl) : PG (compCx X c N' C s H fp) (.Name x pos) (gName i) :=
  pg_name S.nd hi (.inl (comp_local S ho hl)) (.inr (comp_local S ho hl))
end
end L2

set_option Elab.async false
set_option linter.all false
set_option maxRecDepth 100000
/-! MY LAYER, 8: data (lists and tuples of any depth) and ==, != of them -/
namespace L2
open PySem PySem.Spec PyProof.Rows
mutual
inductive DV (K : PySem.W.Frag) (H : Hp) : V → PyData → Prop where
  | non : DV K H .non .none
  | bl (b : Bool) : DV K H (.bl b) (.bool b)
  | int (i : Int) : DV K H (.int i) (.int i)
  | str (s : Str) : DV K H (.str s) (.str s)
  | lst {a : Addr} {xs : List V} {ds : List PyData} : SqL K H a xs → DVs K H xs ds → DV K H (.ref a) (.list ds)
  | tup {a : Addr} {xs : List V} {ds : List PyData} : SqT K H a xs → DVs K H xs ds → DV K H (.ref a) (.tuple ds)
inductive DVs (K : PySem.W.Frag) (H : Hp) : List V → List PyData → Prop where
  | nil : DVs K H [] []
  | cons {x : V} {d : PyData} {xs : List V} {ds : List PyData} : DV K H x d → DVs K H xs ds → DVs K H (x :: xs) (d :: ds)
end
section
variable {X : Cx} {pins : List (Addr × Obj)} {σ : St} {H : Hp} {s : Shared}
mutual
theorem Inv.reads (I : Inv X pins σ H s) : ∀ {x : V} {d : PyData} {u : Value}, DV X.K H x d → RelV x u → ∃ as, Reads s.heap u d as
  | _, _, _, .non, r => by cases r; exact ⟨_, .none⟩
  | _, _, _, .bl b, r => by cases r; exact ⟨_, .bool b⟩
  | _, _, _, .int i, r => by obtain ⟨t, rfl⟩ := r; exact ⟨_, .int i t⟩
  | _, _, _, .str z, r => by obtain ⟨t, rfl⟩ := r; exact ⟨_, .str z t⟩
  | _, _, _, .lst h hs, r => by
    cases r
    obtain ⟨its, rv, ⟨o, n, e, hc, _, hd⟩, _⟩ := I.list h
    obtain ⟨as, q⟩ := Inv.readsAll I hs rv
    exact ⟨_, reads_list_at e hc hd (by simpa using q)⟩
  | _, _, _, .tup h hs, r => by
    cases r
    obtain ⟨its, rv, ⟨o, e, hc, n, hd⟩, _⟩ := I.tuple h
    obtain ⟨as, q⟩ := Inv.readsAll I hs rv
    exact ⟨_, reads_tuple_at e hc hd (by simpa using q)⟩
theorem Inv.readsAll (I : Inv X pins σ H s) : ∀ {xs : List V} {ds : List PyData} {us : List Value}, DVs X.K H xs ds → Vals xs us → ∃ as, ReadsAll s.heap us ds as
  | _, _, _, .nil, r => by cases r; exact ⟨_, .nil⟩
  | _, _, _, .cons h hs, r => by
    cases r with
    | cons r1 r2 =>
      obtain ⟨as, q1⟩ := Inv.reads I h r1
      obtain ⟨bs, q2⟩ := Inv.readsAll I hs r2
      exact ⟨_, .cons q1 q2⟩
end
/-- ==, != of data -/
def rEqD (K : PySem.W.Frag) (neg : Bool) : R2 := fun x y H Q => ∃ d e, DV K H x d ∧ DV K H y e ∧ SeqAt.shaped d = true ∧ SeqAt.shaped e = true ∧ Q (.bl (if neg then !PyData.eqv d e else PyData.eqv d e)) H
theorem op_eqD (hu : X.A.units + 64 < cLine) : OpR X (compareOp .Eq) (rEqD X.K false) := by
  intro pins s σ H x y v u Q I rx ry h
  obtain ⟨d, e, h1, h2, s1, s2, q⟩ := h
  obtain ⟨as, r1⟩ := I.reads h1 rx
  obtain ⟨bs, r2⟩ := I.reads h2 ry
  exact eq_dataH r1 r2 s1 s2 hu ⟨.bl _, H, I, rfl, q⟩
theorem op_neD (hu : X.A.units + 64 < cLine) : OpR X (compareOp .NotEq) (rEqD X.K true) := by
  intro pins s σ H x y v u Q I rx ry h
  obtain ⟨d, e, h1, h2, s1, s2, q⟩ := h
  obtain ⟨as, r1⟩ := I.reads h1 rx
  obtain ⟨bs, r2⟩ := I.reads h2 ry
  exact ne_dataH r1 r2 s1 s2 hu ⟨.bl _, H, I, rfl, q⟩
end
theorem eqD {X : Cx} (K : PySem.W.Frag) {k : Nat} (hr : Room k X.A) (h : X.K = K := by rfl) : OpR X (compareOp .Eq) (rEqD K false) := by subst h; exact op_eqD hr.units
theorem neD {X : Cx} (K : PySem.W.Frag) {k : Nat} (hr : Room k X.A) (h : X.K = K := by rfl) : OpR X (compareOp .NotEq) (rEqD K true) := by subst h; exact op_neD hr.units
mutual
theorem DV.mono {K : PySem.W.Frag} {H H' : Hp} (s : Same H H') : ∀ {x : V} {d : PyData}, DV K H x d → DV K H' x d
  | _, _, .non => .non
  | _, _, .bl b => .bl b
  | _, _, .int i => .int i
  | _, _, .str z => .str z
  | _, _, .lst h hs => .lst (s.seq h) (DVs.mono s hs)
  | _, _, .tup h hs => .tup (by
      rcases h with (h | ⟨ob, h⟩) | h
      · exact .inl (.inl (s _ _ h))
      · exact .inl (.inr ⟨ob, s _ _ h⟩)
      · exact .inr h) (DVs.mono s hs)
theorem DVs.mono {K : PySem.W.Frag} {H H' : Hp} (s : Same H H') : ∀ {xs : List V} {ds : List PyData}, DVs K H xs ds → DVs K H' xs ds
  | _, _, .nil => .nil
  | _, _, .cons h hs => .cons (DV.mono s h) (DVs.mono s hs)
end
end L2

set_option Elab.async false
set_option linter.all false
set_option maxRecDepth 100000
/-! MY LAYER, 9: enumerate of a list, a walk over a text's signs -/
namespace L2
open PySem PySem.Spec PyProof.Rows

/-- enumerate's turns over the list at a: a new pair (number, item) each -/
def Ite (K : PySem.W.Frag) (a : Addr) : It :=
  ⟨fun i H => ∃ xs, SqL K H a xs ∧ i < xs.length,
   fun i H v H' => ∃ p, H p = none ∧ v = .ref p ∧ ∀ xs, SqL K H a xs → ∀ x, xs[i]? = some x → H' = upd H p (.tup [.int i, x]),
   fun i H => ∃ xs, SqL K H a xs ∧ xs.length ≤ i⟩
theorem turn_enum {P : Program} {w : World} {K : PySem.W.Frag} {elts : List Expr} {x1 : Nat} {tpos : Pos} {a e it : Addr} (hne : e ≠ it) :
    Turn P w K (.Tuple elts x1 tpos) (Ite K a) [e, it] e (fun i h => (∃ old, IsEnum h e it i old) ∧ h.IsListIter it a i) where
  mem := by simp
  obj := fun i h st b hb => by
    obtain ⟨⟨old, he⟩, o, hit, hc, hd⟩ := st
    simp only [List.mem_cons, List.not_mem_nil, or_false] at hb
    rcases hb with rfl | rfl
    · exact ⟨_, he, fun v z => by cases z⟩
    · exact ⟨o, hit, fun v z => by rw [hd] at z; cases z⟩
  keep := fun i h h' st k => by
    obtain ⟨⟨old, he⟩, hit⟩ := st
    exact ⟨⟨old, k e (by simp) _ he⟩, hit.at fun o q => k it (by simp) o q⟩
  item := by
    intro X hP hw hK hc i pins s σ H E I hf st hg
    subst hP hw hK
    obtain ⟨⟨old, he⟩, hit⟩ := st
    obtain ⟨xs, q1, l1⟩ := hg
    obtain ⟨its, rv, pl, _⟩ := I.list q1
    obtain ⟨u, hu, ru⟩ := rv.get (List.getElem?_eq_getElem l1)
    refine wpAny_pyNext_enum_item he hit pl.isList (x := u) (by simpa using hu) hne fun h' a1 a2 a3 a4 a5 => ?_
    have lt : ∀ {b : Addr} {o : Obj}, s.heap.get? b = some o → s.heap.objs.size ≠ b := fun q => Nat.ne_of_gt (Heap.lt_size q)
    have hes : s.heap.objs.size ≠ e := lt he
    refine ⟨_, rfl, wpAny_letOwnedTupleGo_enum a1 fun h'' he'' hs'' => ?_⟩
    have hs' : Heap.SameBut e h' h'' := hs''
    have hit'' : h''.IsListIter it a (i + 1) := a2.extBut hs'.extBut hne.symm
    have I2 : Inv X pins σ (upd H s.heap.objs.size (.tup [.int i, xs[i]])) { s with heap := h'', toks := s.toks + 1 } := by
      refine I.zipped (fp := [e, it]) (u := .int i s.toks) (v := u) hf ⟨_, rfl⟩ ru (hs'.extBut _ _ hes a3) (fun b hb => ?_) fun c o hc q => ?_
      · simp only [List.mem_cons, List.not_mem_nil, or_false] at hb
        rcases hb with rfl | rfl
        · exact ⟨_, he''⟩
        · obtain ⟨o, q, _⟩ := hit''; exact ⟨o, q⟩
      · simp only [List.mem_cons, List.not_mem_nil, or_false, not_or] at hc
        exact hs'.extBut _ _ hc.1 (a5 c o hc.1 hc.2 q)
    refine ⟨.ref s.heap.objs.size, _, I2, rfl, ⟨s.heap.objs.size, I.fresh, rfl, fun xs' w1 x' e1 => ?_⟩, ⟨⟨_, he''⟩, hit''⟩, fun b hb => ?_⟩
    · have e3 := I.list_inj w1 q1
      subst e3
      rw [List.getElem?_eq_getElem l1] at e1
      cases e1
      rfl
    · rw [upd_ne (fun z => by
        obtain ⟨o, q⟩ : ∃ o, s.heap.get? b = some o := by
          simp only [List.mem_cons, List.not_mem_nil, or_false] at hb
          rcases hb with rfl | rfl
          · exact ⟨_, he⟩
          · obtain ⟨o, q, _⟩ := hit; exact ⟨o, q⟩
        exact lt q z.symm)]
      exact (hf b hb).1
  done := by
    intro X hP hw hK hc i pins s σ H E I hf st hg
    subst hP hw hK
    obtain ⟨⟨old, he⟩, hit⟩ := st
    obtain ⟨xs, q1, l1⟩ := hg
    obtain ⟨its, rv, pl, _⟩ := I.list q1
    obtain ⟨f0, f1, f2, f3, f4, f5⟩ := hf it (by simp)
    have hl := rv.length
    exact wpAny_pyNext_enum_end (I.ok.hd hc) he hit pl.isList (by rw [List.getElem?_toArray]; exact List.getElem?_eq_none (by omega)) fun h' eb => ⟨rfl, I.turned (t' := s.toks) (fun b o hb q => eb b o hb q) f0 f1 f3 f4 f5⟩
  self := fun _ _ _ _ _ st h => by obtain ⟨⟨old, he⟩, _⟩ := st; exact wpAny_pyIter_enum he h
def iEnum (K : PySem.W.Frag) (ta : TA) : TI := fun σ H R => ta σ H fun vs H1 => ∃ a xs, vs = [V.ref a] ∧ SqL K H1 a xs ∧ R (Ite K a) H1
theorem pi_enum {X : Cx} {l : Expr} {ta : TA} {p pos : Pos} {elts : List Expr} {x1 : Nat} {tpos : Pos} (hg : Gl X "enumerate") (hm : X.mg "enumerate" = none) (ha : PA X [l] ta)
    (hs : starEach [l] X.env = [(false, eval l X.env)] := by rfl) : PI X (.Tuple elts x1 tpos) (.Call (.Name "enumerate" p) [l] [] pos) (iEnum X.K ta) := by
  intro pins s σ H R I h
  refine Call_ (ld_blt I hg hm boot_enumerate (PyProof.Rows.callWith_type1 (thn (ha pos pins s σ H _ I h) fun us s1 ⟨vs, H1, I1, r1, q1⟩ => ?_) hs rfl))
  obtain ⟨a, xs, e, y1, q⟩ := q1
  subst e
  obtain ⟨u, rfl, ru⟩ := r1.one
  cases ru
  obtain ⟨its, rv, pl, _⟩ := I1.list y1
  refine call_enumerate_list pl.isList fun h' he hit hsz hk => wpAny_pyIter_enum he ?_
  have I2 : Inv X pins σ H1 { s1 with heap := h' } := I1.kept (t' := s1.toks) hk
  refine ⟨_, _, _, _, H1, rfl, I2, turn_enum (a := a) (e := s1.heap.objs.size + 1) (it := s1.heap.objs.size) (Nat.ne_of_gt (Nat.lt_succ_self _)), ⟨⟨_, he⟩, hit⟩, fun b hb => ?_, q⟩
  have hb' : s1.heap.objs.size ≤ b := by
    simp only [List.mem_cons, List.not_mem_nil, or_false] at hb
    rcases hb with rfl | rfl
    · exact Nat.le_add_right _ 1
    · exact Nat.le_refl _
  exact I1.fpOk hb' (I1.hok.fresh hb')
theorem iE {X : Cx} (K : PySem.W.Frag) {l : Expr} {ta : TA} {p pos : Pos} {elts : List Expr} {x1 : Nat} {tpos : Pos} (hm : X.mg "enumerate" = none) (ha : PA X [l] ta) (hg : Gl X "enumerate" := by rfl) (hK : X.K = K := by rfl)
    (hs : starEach [l] X.env = [(false, eval l X.env)] := by rfl) : PI X (.Tuple elts x1 tpos) (.Call (.Name "enumerate" p) [l] [] pos) (iEnum K ta) := by subst hK; exact pi_enum hg hm ha hs
/-- for over enumerate of a list that stays -/
theorem for_enum {K : PySem.W.Frag} {a : Addr} {xs : List V} {g : TG} {tb : TS} {D : Ends} {σ : St} {H : Hp} (Pv : Nat → St → Hp → Prop) (h0 : Pv 0 σ H) (hl : ∀ i σ H, Pv i σ H → SqL K H a xs)
    (hs : ∀ i x σ H p, xs[i]? = some x → Pv i σ H → H p = none → g (.ref p) σ (upd H p (.tup [.int i, x])) fun σ2 H2 => tb { D with nx := Pv (i + 1), ct := Pv (i + 1), bk := D.nx } σ2 H2) (hd : ∀ σ H, Pv xs.length σ H → D.nx σ H) :
    ∃ W : Nat → Nat → St → Hp → Prop, (∃ m, W 0 m σ H) ∧ ∀ i m σ H, W i m σ H →
      ((Ite K a).stop i H ∧ D.nx σ H) ∨ ((Ite K a).go i H ∧ ∃ N : St → Hp → Prop, (∀ σ' H', N σ' H' → ∃ m', m' < m ∧ W (i + 1) m' σ' H') ∧ ∀ x H', (Ite K a).yld i H x H' → g x σ H' fun σ2 H2 => tb { D with nx := N, ct := N, bk := D.nx } σ2 H2) := by
  refine ⟨fun i m σ H => m = xs.length - i ∧ i ≤ xs.length ∧ Pv i σ H, ⟨xs.length, by simp, Nat.zero_le _, h0⟩, ?_⟩
  rintro i m σ H ⟨rfl, hi, p⟩
  have q1 := hl i σ H p
  by_cases hlt : i < xs.length
  · refine .inr ⟨⟨xs, q1, hlt⟩, Pv (i + 1), fun σ' H' p' => ⟨xs.length - (i + 1), by omega, rfl, hlt, p'⟩, fun x H' y => ?_⟩
    obtain ⟨r, hr, rfl, e⟩ := y
    have e' := e xs q1 _ (List.getElem?_eq_getElem hlt)
    subst e'
    exact hs i _ σ H r (List.getElem?_eq_getElem hlt) p hr
  · have e : i = xs.length := by omega
    exact .inl ⟨⟨xs, q1, by omega⟩, hd σ H (e ▸ p)⟩
/-- min of a list of ints -/
def rMinL (K : PySem.W.Frag) : List V → Hp → VK → Prop := fun vs H Q => ∃ (p : Addr) (ns : List Int), vs = [.ref p] ∧ SqL K H p (ns.map V.int) ∧ 0 < ns.length ∧ ∀ M, M ∈ ns → (∀ a ∈ ns, M ≤ a) → Q (.int M) H
/-- list(xs): a new one -/
def rListQ (K : PySem.W.Frag) : List V → Hp → VK → Prop := fun xs H Q => ∃ p ys, xs = [.ref p] ∧ (SqL K H p ys ∨ SqT K H p ys) ∧ ∀ l, H l = none → Q (.ref l) (upd H l (.lst ys))
end L2

set_option Elab.async false
set_option linter.all false
set_option maxRecDepth 100000
/-! MY LAYER, 10: names given of a list, slices with a step, insert, bit_length, in, tuple(xs) -/
namespace L2
open PySem PySem.Spec PyProof.Rows
section
variable {prog : Program} {w : World} {A : Around} {E : Value → Shared → Prop} {s : Shared}
end
/-- (a, b, ..) = a list of that length -/
def gLst (K : PySem.W.Frag) (n : Nat) (t : TGs) : TG := fun v σ H Q => ∃ a xs, v = .ref a ∧ SqL K H a xs ∧ xs.length = n ∧ t xs σ H Q
/-! ### slices with a step -/
def pickV (xs : List V) (lo hi : Option Int) (st : Int) : List V :=
  (sliceRange (sliceBounds lo hi (some st) xs.length).1 (sliceBounds lo hi (some st) xs.length).2.1 (sliceBounds lo hi (some st) xs.length).2.2).filterMap fun i => xs[i]?
def SlRS (X : Cx) (r : V → Option Int → Option Int → Int → Hp → VK → Prop) : Prop :=
  ∀ (pins : List (Addr × Obj)) (s : Shared) (σ : St) (H : Hp) (x : V) (v vl vu vs : Value) (lo hi : Option Int) (st : Int) (sl : Addr) (Q : VK), Inv X pins σ H s → RelV x v → s.heap.IsSliceOf sl vl vu vs → IsPart vl lo → IsPart vu hi → IsPart vs (some st) → r x lo hi st H Q →
    ∃ T id, typeLookup (.type T) "__getitem__" = pure (some (.builtin id)) ∧ s.TypeIs v T ∧ wpAny (model X.prog X.w) X.A (getItem v (.ref sl)) (EP X pins σ Q) X.xe s
def tSlS (r : V → Option Int → Option Int → Int → Hp → VK → Prop) (te : TE) (tl th ts : TO) : TE := fun σ H Q => te σ H fun x H1 => tl σ H1 fun l H2 => th σ H2 fun u H3 => ts σ H3 fun k H4 => ∃ i, k = some i ∧ r x l u i H4 Q
section
variable {X : Cx} {e st : Expr} {te : TE} {lo hi : Option Expr} {tl th ts : TO} {pos p2 : Pos}
def rSlLS (K : PySem.W.Frag) : V → Option Int → Option Int → Int → Hp → VK → Prop := fun x lo hi st H Q => ∃ a xs, x = .ref a ∧ SqL K H a xs ∧ st ≠ 0 ∧ ∀ p, H p = none → Q (.ref p) (upd H p (.lst (pickV xs lo hi st)))
end
/-! ### insert, bit_length -/
section
variable {X : Cx}
def rInsert : V → List V → Hp → VK → Prop := fun x vs H Q => ∃ l xs i y, x = .ref l ∧ vs = [.int i, y] ∧ H l = some (.lst xs) ∧ 0 ≤ i ∧ i ≤ xs.length ∧ xs.length < sizeLine ∧ Q .non (upd H l (.lst (xs.take i.toNat ++ y :: xs.drop i.toNat)))
def rBits : V → List V → Hp → VK → Prop := fun x vs H Q => ∃ i, x = .int i ∧ vs = [] ∧ Q (.int (Builtin.Int.intBits i : Nat)) H
def rTupQ (K : PySem.W.Frag) : List V → Hp → VK → Prop := fun xs H Q => ∃ p ys, xs = [.ref p] ∧ ((SqL K H p ys ∧ ∀ l, H l = none → Q (.ref l) (upd H l (.tup ys))) ∨ (SqT K H p ys ∧ Q (.ref p) H))
end
end L2

set_option Elab.async false
set_option linter.all false
set_option maxRecDepth 100000
/-! MY LAYER, 11: a walk over a text's signs; is True, is not True; > of texts -/
namespace L2
open PySem PySem.Spec PyProof.Rows
def Its (z : Str) : It := ⟨fun i _ => i < z.cps.size, fun i H v H' => H' = H ∧ ∃ c, z.cps[i]? = some c ∧ v = .str ⟨#[c]⟩, fun i _ => z.cps.size ≤ i⟩
section
variable {X : Cx} {tg : Expr}
def iStr (tl : TE) : TI := fun σ H R => tl σ H fun x H1 => ∃ z, x = .str z ∧ R (Its z) H1
theorem op_notB : OpR X (compareOp .IsNot) (fun x y H Q => ∃ a b, x = .bl a ∧ y = .bl b ∧ Q (.bl (!decide (a = b))) H) := by
  intro pins s σ H x y v u Q I rx ry h
  obtain ⟨a, b, rfl, rfl, q⟩ := h
  cases rx
  cases ry
  exact wpAny_isNot_plain rfl (fin_bl I q (by cases a <;> cases b <;> rfl))
end
end L2

set_option Elab.async false
set_option linter.all false
set_option maxRecDepth 100000
/-! MY LAYER, 12: str() of data, comprehensions over a text with a test -/
namespace L2
open PySem PySem.Spec PyProof.Rows
/-- what str() makes of data -/
def strD : PyData → Str
  | .str z => z
  | d => d.shown
def rStrD (K : PySem.W.Frag) : List V → Hp → VK → Prop := fun xs H Q => ∃ x d, xs = [x] ∧ DV K H x d ∧ PyData.layable0 d = true ∧ d.intsShort 13 = true ∧ d.showable = true ∧ Q (.str (strD d)) H
end L2

set_option Elab.async false
set_option linter.all false
set_option maxRecDepth 100000
/-! MY LAYER, 13: a dict by tuples: {}, setdefault -/
namespace L2
open PySem PySem.Spec PyProof.Rows
def lookK (kvs : List (List Key × V)) (k : List Key) : Option V := (kvs.find? fun kv => decide (kv.1 = k)).map (·.2)
abbrev PairT (H : Hp) : List (List Key × V) → List (List Key × Addr × Value) → Prop := Paired fun (p : List Key × V) (q : List Key × Addr × Value) => p.1 = q.1 ∧ H q.2.1 = some (.tup (p.1.map kV)) ∧ RelV p.2 q.2.2
section
variable {X : Cx} {pins : List (Addr × Obj)} {σ : St} {H : Hp} {s : Shared}
/-- {} -/
def tNewT : TE := fun _ H Q => ∀ p, H p = none → Q (.ref p) (upd H p (.dT []))
end
def rSetDef : V → List V → Hp → VK → Prop := fun x vs H Q => ∃ d kvs b ks y, x = .ref d ∧ vs = [.ref b, y] ∧ H d = some (.dT kvs) ∧ H b = some (.tup (ks.map kV)) ∧ kvs.length < sizeLine ∧
  (∀ v, lookK kvs ks = some v → Q v H) ∧ (lookK kvs ks = none → Q y (upd H d (.dT (kvs ++ [(ks, y)]))))
end L2

set_option Elab.async false
set_option linter.all false
set_option maxRecDepth 100000
/-! MY LAYER, 19: a range as a value, list(range), comprehensions with a test -/
namespace L2
open PySem PySem.Spec PyProof.Rows
def rRng1 : List V → Hp → VK → Prop := fun xs H Q => ∃ j : Int, xs = [.int j] ∧ ∀ p, H p = none → Q (.ref p) (upd H p (.rng 0 j))
def rRng2 : List V → Hp → VK → Prop := fun xs H Q => ∃ i j : Int, xs = [.int i, .int j] ∧ ∀ p, H p = none → Q (.ref p) (upd H p (.rng i j))
/-- the numbers from lo on -/
def upsI (lo : Int) (n : Nat) : List Int := (List.range n).map fun (k : Nat) => lo + k
def rListR : List V → Hp → VK → Prop := fun xs H Q => ∃ (p : Addr) (lo hi : Int), xs = [.ref p] ∧ H p = some (.rng lo hi) ∧ -(2 ^ 62) ≤ lo ∧ lo < 2 ^ 62 ∧ -(2 ^ 62) ≤ hi ∧ hi < 2 ^ 62 ∧ (hi - lo).toNat ≤ 1000 ∧
  ∀ l, H l = none → Q (.ref l) (upd H l (.lst ((upsI lo (hi - lo).toNat).map V.int)))
end L2

set_option Elab.async false
set_option linter.all false
set_option maxRecDepth 100000
/-! MY LAYER, 20: t[::-1] of a tuple, extend by a tuple, xs[a:c] = ys, sum of ints to 10 ** 10 -/
namespace L2
open PySem PySem.Spec PyProof.Rows
section
variable {prog : Program} {w : World} {A : Around} {E : Value → Shared → Prop} {s : Shared}
end
section
variable {X : Cx}
def rSlTS (K : PySem.W.Frag) : V → Option Int → Option Int → Int → Hp → VK → Prop := fun x lo hi st H Q => ∃ a xs, x = .ref a ∧ SqT K H a xs ∧ lo = none ∧ hi = none ∧ st = -1 ∧ ∀ p, H p = none → Q (.ref p) (upd H p (.tup xs.reverse))
def rExtendT (K : PySem.W.Frag) : V → List V → Hp → VK → Prop := fun x vs H Q => ∃ l b xs zs, x = .ref l ∧ vs = [.ref b] ∧ H l = some (.lst xs) ∧ H b = some (.tup zs) ∧ xs.length + zs.length ≤ sizeLine ∧ Q .non (upd H l (.lst (xs ++ zs)))
theorem listItems_at {prog : Program} {w : World} {A : Around} {E : Value → Shared → Prop} {s : Shared} {a : Addr} {o : Obj} {xs : Array Value} {n : Nat} {Q : Array Value → Shared → Prop} (ho : s.heap.get? a = some o) (hd : o.data = .seq xs n) (h : Q xs s) : wpAny (model prog w) A (Builtin.List.listItems (.ref a)) Q E s := by
  unfold Builtin.List.listItems
  exact wpAny_bind (wpAny_seqItems ho hd (wpAny_pure h))
/-- o[lo:hi] = .. of another list -/
def gSlice (to : TE) (tl th : TO) : TG := fun v σ H Q => to σ H fun o H1 => tl σ H1 fun l H2 => th σ H2 fun u H3 => ∃ (p b : Addr) (xs ys : List V) (a c : Int), o = .ref p ∧ v = .ref b ∧ l = some a ∧ u = some c ∧ H3 p = some (.lst xs) ∧ H3 b = some (.lst ys) ∧ p ≠ b ∧ 0 ≤ a ∧ a ≤ c ∧ c ≤ xs.length ∧ xs.length + ys.length ≤ sizeLine ∧
  Q σ (upd H3 p (.lst (xs.take a.toNat ++ ys ++ xs.drop c.toNat)))
def rSumB (K : PySem.W.Frag) : List V → Hp → VK → Prop := fun vs H Q => ∃ (p : Addr) (ns : List Int), vs = [.ref p] ∧ SqL K H p (ns.map V.int) ∧ ns.length ≤ 1000 ∧ (∀ n ∈ ns, 0 ≤ n ∧ n ≤ 10000000000) ∧ Q (.int ns.sum) H
end
end L2

set_option Elab.async false
set_option linter.all false
set_option maxRecDepth 100000
/-! MY LAYER, 21: sorted of things whose order stands in the heap (fewer than 64) -/
namespace L2
open PySem PySem.Spec PyProof.Rows
section
variable {prog : Program} {w : World} {A : Around} {E : Value → Shared → Prop} {s : Shared} {κ : PyProof.Rows.KeyKind} {k0 : SortKind} {a₀ : Array Keyed} {st : SortSt}
/-- the order at this very state -/
def LtAt (prog : Program) (w : World) (A : Around) (s : Shared) (k0 : SortKind) (κ : PyProof.Rows.KeyKind) : Prop :=
  ∀ (E : Value → Shared → Prop) (x y : Value) (a b : κ.α) (Q : Bool → Shared → Prop), κ.keyOf x = some a → κ.keyOf y = some b → Q (κ.blt a b) s → wpAny (model prog w) A (keyLt' k0 x y) Q E s
structure SB (k0 : SortKind) (a₀ : Array Keyed) (st : SortSt) : Prop where
  perm : (arrOf st).Perm a₀
  kind : kindOf st = k0
  failed : failedOf st = none
  pend : pendingOf st = #[]
theorem SB.size (B : SB k0 a₀ st) : (arrOf st).size = a₀.size := B.perm.size_eq
theorem SB.at (B : SB k0 a₀ st) (hk : PyProof.Rows.KeysOf κ a₀) {i : Nat} (hi : i < a₀.size) : ∃ x p, (arrOf st)[i]? = some (x, p) ∧ κ.keyOf x = some (KK κ (arrOf st) i) := by
  have hs := B.size
  have e : (arrOf st)[i]? = some (arrOf st)[i] := Array.getElem?_eq_getElem (by omega)
  have hm : (arrOf st)[i] ∈ a₀.toList := by
    have h1 : (arrOf st)[i] ∈ arrOf st := Array.getElem_mem (by omega)
    have h2 := (B.perm.mem_iff (a := (arrOf st)[i])).mp h1
    simpa using h2
  obtain ⟨a, ha⟩ := hk _ hm
  refine ⟨(arrOf st)[i].1, (arrOf st)[i].2, e, ?_⟩
  unfold KK
  rw [e]
  show _ = some ((κ.keyOf (arrOf st)[i].1).getD κ.dflt)
  rw [ha]
  rfl
theorem SB.set (B : SB k0 a₀ st) {xs : Array Keyed} (h : xs.Perm (arrOf st)) : SB k0 a₀ (setArr st xs) := ⟨h.trans B.perm, B.kind, B.failed, B.pend⟩
theorem w_elem {arr : Array Keyed} {i : Nat} {p : Keyed} {Q : Keyed → SortSt → Prop} (h : arr[i]? = some p) (q : Q p st) : wpS (model prog w) A E s (elem' arr i) Q st := by
  rw [elem'_eq, h]
  exact wpS_pure q
theorem w_lt (hL : LtAt prog w A s k0 κ) (hk : PyProof.Rows.KeysOf κ a₀) (B : SB k0 a₀ st) {i j : Nat} (hi : i < a₀.size) (hj : j < a₀.size) {Q : Option Bool → SortSt → Prop} (q : Q (some (κ.blt (KK κ (arrOf st) i) (KK κ (arrOf st) j))) st) : wpS (model prog w) A E s (ltAt' i j) Q st := by
  obtain ⟨x, p, e1, k1⟩ := B.at hk hi
  obtain ⟨y, p', e2, k2⟩ := B.at hk hj
  rw [ltAt'_eq]
  refine wpS_bind (wpS_get ?_)
  show wpS _ _ _ _ (elem' (arrOf st) i >>= _) _ _
  refine wpS_bind (w_elem e1 (wpS_bind (w_elem e2 ?_)))
  rw [lt'_eq]
  refine wpS_bind (wpS_get (wpS_bind (wpS_lift (wpAny_attempt ?_))))
  rw [B.kind]
  refine hL _ x y _ _ _ k1 k2 ⟨rfl, ?_⟩
  exact wpS_pure q
theorem srt_succ {xs : Array Keyed} {i : Nat} (h0 : 1 ≤ i) (S : SortedToK κ xs i) (h : κ.kle (KK κ xs (i - 1)) (KK κ xs i)) : SortedToK κ xs (i + 1) := by
  intro a b hab hb
  by_cases e : b < i
  · exact S a b hab e
  · have eb : b = i := by omega
    subst eb
    by_cases ea : a = b
    · subst ea; exact KeyOrd.kle_refl _
    · exact KeyOrd.kle_trans (S a (b - 1) (by omega) (by omega)) h
theorem w_asc (hL : LtAt prog w A s k0 κ) (hk : PyProof.Rows.KeysOf κ a₀) {a nrem : Nat} (hn : nrem ≤ a₀.size) (h1 : 1 ≤ a) (ha : a ≤ nrem) (B : SB k0 a₀ st) (S : SortedToK κ (arrOf st) a) {Q : AscSt → SortSt → Prop}
    (q : ∀ n, a ≤ n → n ≤ nrem → SortedToK κ (arrOf st) n → (n = nrem ∨ κ.klt (KK κ (arrOf st) n) (KK κ (arrOf st) (n - 1))) → Q (none, n) st) : wpS (model prog w) A E s (ascLoop a nrem) Q st := by
  unfold ascLoop
  refine wpS_forRange (fun i c st' => st' = st ∧ c = (none, i) ∧ SortedToK κ (arrOf st) i) ?_ ?_ ⟨rfl, rfl, S⟩
  · rintro i c st' hai hin ⟨rfl, rfl, S'⟩
    refine wpS_bind (w_lt hL hk B (by show i < _; omega) (by show i - 1 < _; omega) ?_)
    cases hb : κ.blt (KK κ (arrOf st') i) (KK κ (arrOf st') (i - 1)) with
    | true => exact wpS_pure (q i hai (by omega) S' (.inr hb))
    | false => exact wpS_pure ⟨rfl, rfl, srt_succ (by omega) S' hb⟩
  · rintro c st' ⟨rfl, rfl, S'⟩
    rw [show max a nrem = nrem by omega] at S' ⊢
    exact q nrem ha (Nat.le_refl _) S' (.inl rfl)
theorem w_rev {i j : Nat} {Q : Unit → SortSt → Prop} (q : Q () (setArr st (mirror (arrOf st) i j ((j - i) / 2)))) : wpS (model prog w) A E s (reverseSlice' i j) Q st := wpS_reverse q
theorem arr_set (st : SortSt) (xs : Array Keyed) : arrOf (setArr st xs) = xs := rfl
theorem w_desc (hL : LtAt prog w A s k0 κ) (hk : PyProof.Rows.KeysOf κ a₀) {n nrem : Nat} (hn : nrem ≤ a₀.size) (h1 : 1 ≤ n) (hnn : n ≤ nrem) (B : SB k0 a₀ st) (S : NonIncK κ (arrOf st) n) {Q : DescSt → SortSt → Prop}
    (q : ∀ (m neq : Nat) (st' : SortSt), SB k0 a₀ st' → n ≤ m → m ≤ nrem → NonIncK κ (arrOf st') m → neq + 1 ≤ m → (∀ i, m - (neq + 1) ≤ i → i < m → KK κ (arrOf st') i = KK κ (arrOf st') (m - 1)) → Q (none, m, neq) st') : wpS (model prog w) A E s (descLoop n nrem) Q st := by
  unfold descLoop
  refine wpS_forRange (fun i c st' => ∃ neq, c = (none, i, neq) ∧ SB k0 a₀ st' ∧ n ≤ i ∧ i ≤ nrem ∧ NonIncK κ (arrOf st') i ∧ neq + 1 ≤ i ∧ (∀ k, i - (neq + 1) ≤ k → k < i → KK κ (arrOf st') k = KK κ (arrOf st') (i - 1))) ?_ ?_ ?_
  · rintro i c st' hai hin ⟨neq, rfl, B', hi1, hi2, N', hq, heq⟩
    have more : ∀ (st2 : SortSt), SB k0 a₀ st2 → (∀ k, KK κ (arrOf st2) k = KK κ (arrOf st') k) → κ.kle (KK κ (arrOf st') i) (KK κ (arrOf st') (i - 1)) → NonIncK κ (arrOf st2) (i + 1) := fun st2 B2 e hle a b hab hb => by
      rw [e a, e b]
      by_cases hbi : b < i
      · exact N' a b hab hbi
      · have eb : b = i := by omega
        subst eb
        by_cases ea : a = b
        · subst ea; exact KeyOrd.kle_refl _
        · exact KeyOrd.kle_trans hle (N' a (b - 1) (by omega) (by omega))
    refine wpS_bind (w_lt hL hk B' (by show i < _; omega) (by show i - 1 < _; omega) ?_)
    cases hb : κ.blt (KK κ (arrOf st') i) (KK κ (arrOf st') (i - 1)) with
    | true =>
      have hle : κ.kle (KK κ (arrOf st') i) (KK κ (arrOf st') (i - 1)) := KeyOrd.kle_of_klt hb
      show wpS _ _ _ _ (if neq > 0 then _ else _) _ _
      by_cases h0 : neq > 0
      · rw [if_pos h0]
        refine wpS_bind (w_rev (wpS_pure ?_))
        have e : ∀ k, KK κ (mirror (arrOf st') (i - (neq + 1)) i ((i - (i - (neq + 1))) / 2)) k = KK κ (arrOf st') k := KK_mirror_equal (by rw [B'.size]; omega) (fun k h1 h2 => heq k h1 h2)
        refine ⟨0, rfl, B'.set (mirror_perm _ _ _ _), by omega, by omega, more _ (B'.set (mirror_perm _ _ _ _)) e hle, by omega, fun k h1 h2 => ?_⟩
        have : k = i := by omega
        subst this
        rfl
      · rw [if_neg h0]
        refine wpS_pure ⟨0, rfl, B', by omega, by omega, more _ B' (fun _ => rfl) hle, by omega, fun k h1 h2 => ?_⟩
        have : k = i := by omega
        subst this
        rfl
    | false =>
      refine wpS_bind (w_lt hL hk B' (by show i - 1 < _; omega) (by show i < _; omega) ?_)
      cases hb2 : κ.blt (KK κ (arrOf st') (i - 1)) (KK κ (arrOf st') i) with
      | true => exact wpS_pure (q i neq st' B' hi1 hi2 N' hq heq)
      | false =>
        have ee := κ.total _ _ hb hb2
        refine wpS_pure ⟨neq + 1, rfl, B', by omega, by omega, more _ B' (fun _ => rfl) hb2, by omega, fun k h1 h2 => ?_⟩
        show KK κ (arrOf st') k = KK κ (arrOf st') i
        by_cases hki : k = i
        · rw [hki]
        · rw [ee]; exact heq k (by omega) (by omega)
  · rintro c st' ⟨neq, rfl, B', hi1, hi2, N', hq, heq⟩
    rw [show max n nrem = nrem by omega] at *
    exact q nrem neq st' B' hi1 hi2 N' hq heq
  · refine ⟨0, rfl, B, Nat.le_refl _, hnn, S, by omega, fun k h1 h2 => ?_⟩
    have : k = n - 1 := by omega
    rw [this]
theorem w_tail (hL : LtAt prog w A s k0 κ) (hk : PyProof.Rows.KeysOf κ a₀) {n nrem : Nat} (hn : nrem ≤ a₀.size) (h1 : 1 ≤ n) (hnn : n ≤ nrem) (B : SB k0 a₀ st) (N : NonIncK κ (arrOf st) n) {Q : Option Nat → SortSt → Prop}
    (q : ∀ (m : Nat) (st' : SortSt), SB k0 a₀ st' → 1 ≤ m → m ≤ nrem → SortedToK κ (arrOf st') m → Q (some m) st') : wpS (model prog w) A E s (tail3 n nrem) Q st := by
  unfold tail3
  refine wpS_bind (w_rev ?_)
  have B' := B.set (mirror_perm (arrOf st) 0 n ((n - 0) / 2))
  have e := KK_mirror (κ := κ) (xs := arrOf st) (i := 0) (j := n) (by rw [B.size]; omega)
  have S : SortedToK κ (mirror (arrOf st) 0 n ((n - 0) / 2)) n := fun a b hab hb => by
    rw [e a, e b, if_pos ⟨by omega, by omega⟩, if_pos ⟨by omega, by omega⟩]
    exact N _ _ (by omega) (by omega)
  refine wpS_bind (w_asc hL hk hn h1 hnn B' S fun m hm1 hm2 S' _ => ?_)
  exact wpS_pure (q m _ B' (by omega) hm2 S')
theorem w_part (hL : LtAt prog w A s k0 κ) (hk : PyProof.Rows.KeysOf κ a₀) {n nrem : Nat} (hn : nrem ≤ a₀.size) (hnn : n + 1 ≤ nrem) (B : SB k0 a₀ st) (N : NonIncK κ (arrOf st) (n + 1)) {Q : Option Nat → SortSt → Prop}
    (q : ∀ (m : Nat) (st' : SortSt), SB k0 a₀ st' → 1 ≤ m → m ≤ nrem → SortedToK κ (arrOf st') m → Q (some m) st') : wpS (model prog w) A E s (descPart n nrem) Q st := by
  unfold descPart
  refine wpS_bind (wpS_lift (wpAny_rule ⟨rfl, ?_⟩))
  refine wpS_bind (w_desc hL hk hn (by omega) hnn B N fun m neq st' B' m1 m2 N' hq heq => ?_)
  show wpS _ _ _ _ (if neq > 0 then _ else _) _ _
  by_cases h0 : neq > 0
  · rw [if_pos h0]
    refine wpS_bind (w_rev ?_)
    have e : ∀ k, KK κ (mirror (arrOf st') (m - (neq + 1)) m ((m - (m - (neq + 1))) / 2)) k = KK κ (arrOf st') k := KK_mirror_equal (by rw [B'.size]; omega) (fun k h1 h2 => heq k h1 h2)
    exact w_tail hL hk hn (by omega) m2 (B'.set (mirror_perm _ _ _ _)) (fun a b hab hb => by rw [e a, e b]; exact N' a b hab hb) q
  · rw [if_neg h0]
    exact w_tail hL hk hn (by omega) m2 B' N' q
theorem w_count (hL : LtAt prog w A s k0 κ) (hk : PyProof.Rows.KeysOf κ a₀) {nrem : Nat} (hn : nrem ≤ a₀.size) (h1 : 1 ≤ nrem) (B : SB k0 a₀ st) {Q : Option Nat → SortSt → Prop}
    (q : ∀ (m : Nat) (st' : SortSt), SB k0 a₀ st' → 1 ≤ m → m ≤ nrem → SortedToK κ (arrOf st') m → Q (some m) st') : wpS (model prog w) A E s (countRun' 0 nrem) Q st := by
  rw [countRun0_eq]
  refine wpS_bind (w_asc hL hk hn (Nat.le_refl 1) h1 B (fun a b hab hb => by have e : a = b := by omega
                                                                             subst e; exact KeyOrd.kle_refl _) fun n n1 n2 S hor => ?_)
  show wpS _ _ _ _ (if (n == nrem) = true then _ else _) _ _
  by_cases hnn : n = nrem
  · rw [if_pos (by rw [hnn]; exact beq_self_eq_true _)]
    exact wpS_pure (q n st B n1 n2 S)
  · rw [if_neg (by intro z; exact hnn (eq_of_beq z))]
    have hlt := hor.resolve_left hnn
    have flat : (∀ k, k < n → KK κ (arrOf st) k = KK κ (arrOf st) (n - 1)) → NonIncK κ (arrOf st) (n + 1) := fun hf a b hab hb => by
      by_cases hbn : b < n
      · rw [hf a (by omega), hf b hbn]; exact KeyOrd.kle_refl _
      · have eb : b = n := by omega
        subst eb
        by_cases ea : a = b
        · subst ea; exact KeyOrd.kle_refl _
        · rw [hf a (by omega)]; exact KeyOrd.kle_of_klt hlt
    by_cases hn1 : n > 1
    · rw [if_pos hn1]
      refine wpS_bind (w_lt hL hk B (by omega) (by omega) ?_)
      cases hb : κ.blt (KK κ (arrOf st) 0) (KK κ (arrOf st) (n - 1)) with
      | true => exact wpS_pure (q n st B n1 n2 S)
      | false =>
        have hf : ∀ k, k < n → KK κ (arrOf st) k = KK κ (arrOf st) (n - 1) := fun k hkn => by
          have a1 : κ.kle (KK κ (arrOf st) k) (KK κ (arrOf st) (n - 1)) := S k (n - 1) (by omega) (by omega)
          have a2 : κ.kle (KK κ (arrOf st) (n - 1)) (KK κ (arrOf st) k) := KeyOrd.kle_trans (show κ.kle (KK κ (arrOf st) (n - 1)) (KK κ (arrOf st) 0) from hb) (S 0 k (by omega) (by omega))
          exact KeyOrd.kle_antisymm a1 a2
        refine wpS_bind (w_rev ?_)
        have e : ∀ k, KK κ (mirror (arrOf st) 0 n ((n - 0) / 2)) k = KK κ (arrOf st) k := KK_mirror_equal (by rw [B.size]; omega) (fun k _ h2 => hf k h2)
        exact w_part hL hk hn (by omega) (B.set (mirror_perm _ _ _ _)) (fun a b hab hb => by rw [e a, e b]; exact flat hf a b hab hb) q
    · rw [if_neg hn1]
      exact w_part hL hk hn (by omega) B (flat fun k hkn => by have : k = n - 1 := by omega
                                                               rw [this]) q
theorem w_binary (hL : LtAt prog w A s k0 κ) (hk : PyProof.Rows.KeysOf κ a₀) {n ok : Nat} (hn : n ≤ a₀.size) (h1 : ok ≤ n) (h0 : 1 ≤ ok) (B : SB k0 a₀ st) (S : SortedToK κ (arrOf st) ok) {Q : Bool → SortSt → Prop}
    (q : ∀ (st' : SortSt), SB k0 a₀ st' → SortedToK κ (arrOf st') n → Q true st') : wpS (model prog w) A E s (binarySort' 0 n ok) Q st := by
  rw [binarySort'_eq]
  refine wpS_bind ?_
  refine wpS_forRange (fun i c st' => c = (none, ()) ∧ SB k0 a₀ st' ∧ SortedToK κ (arrOf st') i) ?_ ?_ ⟨rfl, B, by rw [show max ok 1 = ok by omega]; exact S⟩
  · rintro k c st' hak hkn ⟨rfl, B', S'⟩
    have k1 : 1 ≤ k := by omega
    refine wpS_bind ?_
    refine wpS_forRange (fun i c st2 => ∃ l r, c = (none, l, r) ∧ st2 = st' ∧ l ≤ r ∧ r ≤ k ∧ r - l ≤ k - i ∧ (∀ j, j < l → κ.kle (KK κ (arrOf st') j) (KK κ (arrOf st') k)) ∧ (∀ j, r ≤ j → j < k → κ.klt (KK κ (arrOf st') k) (KK κ (arrOf st') j))) ?_ ?_ ⟨0, k, rfl, rfl, Nat.zero_le _, Nat.le_refl _, by omega, fun j h => by omega, fun j h1 h2 => by omega⟩
    · rintro i c st2 hi0 hik ⟨l, r, rfl, rfl, hlr, hrk, hm, hlo, hhi⟩
      show wpS _ _ _ _ (if l ≥ r then _ else _) _ _
      by_cases hge : l ≥ r
      · rw [if_pos hge]
        refine wpS_pure ?_
        have elr : l = r := by omega
        subst elr
        refine wpS_bind ?_
        rw [moveDown'_eq]
        refine wpS_modify (wpS_pure ?_)
        have eb := KK_bubble (κ := κ) (xs := arrOf st2) (src := 0 + k) (d := 0 + k - (0 + l)) (by rw [B'.size]; omega) (by omega)
        refine ⟨rfl, B'.set (bubble_perm _ _ _), fun a b hab hb => ?_⟩
        show κ.kle (KK κ (bubble (arrOf st2) (0 + k) (0 + k - (0 + l))) a) (KK κ (bubble (arrOf st2) (0 + k) (0 + k - (0 + l))) b)
        rw [eb a, eb b]
        rw [show 0 + k = k by omega, show 0 + l = l by omega, show k - (k - l) = l by omega]
        by_cases ha : a = l
        · rw [if_pos ha]
          by_cases hbl : b = l
          · rw [if_pos hbl]; exact KeyOrd.kle_refl _
          · rw [if_neg hbl, if_pos ⟨by omega, by omega⟩]
            exact KeyOrd.kle_of_klt (hhi (b - 1) (by omega) (by omega))
        · rw [if_neg ha]
          by_cases hal : a < l
          · rw [if_neg (by omega)]
            by_cases hbl : b = l
            · rw [if_pos hbl]; exact hlo a hal
            · rw [if_neg hbl]
              by_cases hbb : l < b
              · rw [if_pos ⟨hbb, by omega⟩]; exact S' a (b - 1) (by omega) (by omega)
              · rw [if_neg (by omega)]; exact S' a b hab (by omega)
          · rw [if_pos ⟨by omega, by omega⟩, if_neg (by omega), if_pos ⟨by omega, by omega⟩]
            exact S' (a - 1) (b - 1) (by omega) (by omega)
      · rw [if_neg hge]
        refine wpS_bind (w_lt hL hk B' (by show 0 + k < _; omega) (by show 0 + (l + r) / 2 < _; omega) ?_)
        rw [show 0 + k = k by omega, show 0 + (l + r) / 2 = (l + r) / 2 by omega]
        cases hb : κ.blt (KK κ (arrOf st2) k) (KK κ (arrOf st2) ((l + r) / 2)) with
        | true =>
          refine wpS_pure ⟨l, (l + r) / 2, rfl, rfl, by omega, by omega, by omega, hlo, fun j h1 h2 => ?_⟩
          exact KeyOrd.klt_of_klt_of_kle hb (S' _ j h1 h2)
        | false =>
          refine wpS_pure ⟨(l + r) / 2 + 1, r, rfl, rfl, by omega, by omega, by omega, fun j h => ?_, hhi⟩
          exact KeyOrd.kle_trans (S' j ((l + r) / 2) (by omega) (by omega)) hb
    · rintro c st2 ⟨l, r, rfl, rfl, hlr, hrk, hm, hlo, hhi⟩
      have elr : l = r := by omega
      subst elr
      refine wpS_bind ?_
      rw [moveDown'_eq]
      refine wpS_modify (wpS_pure ?_)
      have eb := KK_bubble (κ := κ) (xs := arrOf st2) (src := 0 + k) (d := 0 + k - (0 + l)) (by rw [B'.size]; omega) (by omega)
      refine ⟨rfl, B'.set (bubble_perm _ _ _), fun a b hab hb => ?_⟩
      show κ.kle (KK κ (bubble (arrOf st2) (0 + k) (0 + k - (0 + l))) a) (KK κ (bubble (arrOf st2) (0 + k) (0 + k - (0 + l))) b)
      rw [eb a, eb b]
      rw [show 0 + k = k by omega, show 0 + l = l by omega, show k - (k - l) = l by omega]
      by_cases ha : a = l
      · rw [if_pos ha]
        by_cases hbl : b = l
        · rw [if_pos hbl]; exact KeyOrd.kle_refl _
        · rw [if_neg hbl, if_pos ⟨by omega, by omega⟩]
          exact KeyOrd.kle_of_klt (hhi (b - 1) (by omega) (by omega))
      · rw [if_neg ha]
        by_cases hal : a < l
        · rw [if_neg (by omega)]
          by_cases hbl : b = l
          · rw [if_pos hbl]; exact hlo a hal
          · rw [if_neg hbl]
            by_cases hbb : l < b
            · rw [if_pos ⟨hbb, by omega⟩]; exact S' a (b - 1) (by omega) (by omega)
            · rw [if_neg (by omega)]; exact S' a b hab (by omega)
        · rw [if_pos ⟨by omega, by omega⟩, if_neg (by omega), if_pos ⟨by omega, by omega⟩]
          exact S' (a - 1) (b - 1) (by omega) (by omega)
  · rintro c st' ⟨rfl, B', S'⟩
    rw [show max (max ok 1) n = n by omega] at S'
    exact wpS_pure (q st' B' S')
theorem w_runs (hL : LtAt prog w A s k0 κ) (hk : PyProof.Rows.KeysOf κ a₀) (B : SB k0 a₀ st) (h2 : 2 ≤ a₀.size) (h64 : a₀.size < 64) {Q : Unit → SortSt → Prop}
    (q : ∀ (st' : SortSt), (arrOf st').Perm a₀ → failedOf st' = none → SortedToK κ (arrOf st') a₀.size → Q () st') : wpS (model prog w) A E s sortRuns' Q st := by
  rw [sortRuns'_eq]
  refine wpS_bind (wpS_get ?_)
  have hsz := B.size
  have hmin : minRun' (arrOf st).size (arrOf st).size 0 = (arrOf st).size := by
    obtain ⟨f, hf⟩ : ∃ f, (arrOf st).size = f + 1 := ⟨(arrOf st).size - 1, by omega⟩
    rw [show minRun' (arrOf st).size (arrOf st).size 0 = minRun' (f + 1) (arrOf st).size 0 by rw [← hf], minRun'_succ, if_pos (by omega)]
    rfl
  refine wpS_bind ?_
  refine wpS_forRange (fun i c st' => (i = 0 ∧ c = (none, 0) ∧ st' = st) ∨ (i ≠ 0 ∧ c = (none, a₀.size) ∧ (arrOf st').Perm a₀ ∧ failedOf st' = none ∧ (pendingOf st').size ≤ 1 ∧ SortedToK κ (arrOf st') a₀.size)) ?_ ?_ (.inl ⟨rfl, rfl, rfl⟩)
  · rintro i c st' hi0 hi ⟨⟩
    · rename_i h
      obtain ⟨rfl, rfl, rfl⟩ := h
      show wpS _ _ _ _ (if 0 ≥ (arrOf st').size then _ else _) _ _
      rw [if_neg (by omega)]
      refine wpS_bind ?_
      rw [show (arrOf st').size - 0 = a₀.size by omega]
      refine w_count hL hk (Nat.le_refl _) (by omega) B fun m st2 B2 m1 m2 S2 => ?_
      have push : ∀ (st3 : SortSt), SB k0 a₀ st3 → SortedToK κ (arrOf st3) a₀.size → (arrOf (setPending st3 ((pendingOf st3).push (0, a₀.size, 0)))).Perm a₀ ∧ failedOf (setPending st3 ((pendingOf st3).push (0, a₀.size, 0))) = none ∧ (pendingOf (setPending st3 ((pendingOf st3).push (0, a₀.size, 0)))).size ≤ 1 ∧ SortedToK κ (arrOf (setPending st3 ((pendingOf st3).push (0, a₀.size, 0)))) a₀.size := fun st3 B3 S3 =>
        ⟨B3.perm, B3.failed, by show ((pendingOf st3).push (0, a₀.size, 0)).size ≤ 1; rw [B3.pend, Array.size_push]; exact Nat.le_refl _, S3⟩
      show wpS _ _ _ _ (if m < minRun' (arrOf st').size (arrOf st').size 0 then _ else _) _ _
      rw [hmin, hsz]
      by_cases hm : m < a₀.size
      · rw [if_pos hm]
        refine wpS_bind (wpS_lift (wpAny_rule ⟨rfl, ?_⟩))
        show wpS _ _ _ _ (binarySort' 0 (min a₀.size a₀.size) m >>= _) _ _
        rw [Nat.min_self]
        refine wpS_bind (w_binary hL hk (Nat.le_refl _) (by omega) m1 B2 S2 fun st3 B3 S3 => ?_)
        show wpS _ _ _ _ (get >>= _) _ _
        refine wpS_bind (wpS_get ?_)
        show wpS _ _ _ _ (match (pendingOf st3).back? with | some (s1, n1, snd) => _ | x => _) _ _
        rw [show (pendingOf st3).back? = none by rw [B3.pend]; rfl]
        show wpS _ _ _ _ (modify _ >>= _) _ _
        refine wpS_bind (wpS_modify (wpS_pure (.inr ⟨by omega, ?_, push st3 B3 S3⟩)))
        show (none, 0 + a₀.size) = (none, a₀.size)
        rw [Nat.zero_add]
      · rw [if_neg hm]
        have em : m = a₀.size := by omega
        subst em
        show wpS _ _ _ _ (get >>= _) _ _
        refine wpS_bind (wpS_get ?_)
        show wpS _ _ _ _ (match (pendingOf st2).back? with | some (s1, n1, snd) => _ | x => _) _ _
        rw [show (pendingOf st2).back? = none by rw [B2.pend]; rfl]
        show wpS _ _ _ _ (modify _ >>= _) _ _
        refine wpS_bind (wpS_modify (wpS_pure (.inr ⟨by omega, ?_, push st2 B2 S2⟩)))
        show (none, 0 + a₀.size) = (none, a₀.size)
        rw [Nat.zero_add]
    · rename_i h
      obtain ⟨hne, rfl, p1, p2, p3, p4⟩ := h
      show wpS _ _ _ _ (if a₀.size ≥ (arrOf st).size then _ else _) _ _
      rw [if_pos (by omega)]
      refine wpS_pure ?_
      show wpS _ _ _ _ (forIn [:(arrOf st).size] (none, ()) _ >>= _) _ _
      refine wpS_bind ?_
      refine wpS_forRange (fun i c st2 => c = (none, ()) ∧ st2 = st') ?_ ?_ ⟨rfl, rfl⟩
      · rintro i c st2 _ _ ⟨rfl, rfl⟩
        show wpS _ _ _ _ (get >>= _) _ _
        refine wpS_bind (wpS_get ?_)
        show wpS _ _ _ _ (if (pendingOf st2).size ≤ 1 then _ else _) _ _
        rw [if_pos p3]
        exact wpS_pure (wpS_pure (q _ p1 p2 p4))
      · rintro c st2 ⟨rfl, rfl⟩
        exact wpS_pure (q _ p1 p2 p4)
  · rintro c st' ⟨⟩
    · rename_i h
      exact absurd h.1 (by omega)
    · rename_i h
      obtain ⟨hne, rfl, p1, p2, p3, p4⟩ := h
      show wpS _ _ _ _ (forIn [:(arrOf st).size] (none, ()) _ >>= _) _ _
      refine wpS_bind ?_
      refine wpS_forRange (fun i c st2 => c = (none, ()) ∧ st2 = st') ?_ ?_ ⟨rfl, rfl⟩
      · rintro i c st2 _ _ ⟨rfl, rfl⟩
        show wpS _ _ _ _ (get >>= _) _ _
        refine wpS_bind (wpS_get ?_)
        show wpS _ _ _ _ (if (pendingOf st2).size ≤ 1 then _ else _) _ _
        rw [if_pos p3]
        exact wpS_pure (wpS_pure (q _ p1 p2 p4))
      · rintro c st2 ⟨rfl, rfl⟩
        exact wpS_pure (q _ p1 p2 p4)
end
end L2

set_option Elab.async false
set_option linter.all false
set_option maxRecDepth 100000
/-! MY LAYER, 22: sorted of a list of tuples -/
namespace L2
open PySem PySem.Spec PyProof.Rows
section
variable {prog : Program} {w : World} {A : Around} {E : Value → Shared → Prop} {s : Shared} {κ : PyProof.Rows.KeyKind}
theorem w_sort {a : Addr} {vs : List Value} {n : Nat} {P : PySem.Fin → Shared → Prop} (ha : s.heap.get? a = some (seqObj "list" vs.toArray n)) (hk : PyProof.Rows.KeysOf κ (pairsOf vs)) (h2 : 2 ≤ vs.length) (h64 : vs.length < 64)
    (hK : ∀ (s' : Shared), (∀ b o, b ≠ a → s.heap.get? b = some o → s'.heap.get? b = some o) → ∀ (E : Value → Shared → Prop) (Q : SortKind → Shared → Prop), (∀ k0, LtAt prog w A s' k0 κ → Q k0 s') → wpAny (model prog w) A (keyKind' vs.toArray) Q E s')
    (q : ∀ (st' : SortSt), (arrOf st').Perm (pairsOf vs) → SortedToK κ (arrOf st') (pairsOf vs).size → P (Fin.done (Flow.ret Value.none)) { s with heap := sortedHeap s.heap a vs ((arrOf st').map fun x => x.snd) }) :
    wpAny (model prog w) A (Builtin.«list.sort» { pos := [.ref a] }) P E s := by
  have hz : vs.toArray.size ≤ sizeLine := by rw [List.size_toArray, sizeLine_eq]; omega
  rw [list_sort_plain]
  refine wpAny_bind (listItems_at ha rfl ?_)
  show wpAny _ _ (updateSeq a (fun x => #[]) >>= _) _ _ _
  refine wpAny_bind (wpAny_updateSeq ha rfl ?_ hz (by show 0 ≤ _; omega))
  have e1 := get?_update_seq ha (fun _ => #[])
  refine wpAny_bind (seqEpoch_at e1 rfl ?_)
  refine wpAny_bind (wpAny_newTuple ?_ (by simpa using hz))
  refine wpAny_bind (wpAny_newList ?_ (by show 0 ≤ _; omega))
  refine wpAny_holding ?_
  have hn2 : ¬ vs.toArray.size < 2 := by rw [List.size_toArray]; omega
  have hps : (pairsOf vs).size = vs.length := by unfold pairsOf; simp
  rw [if_neg hn2, if_neg hn2]
  have keep : ∀ b o, b ≠ a → s.heap.get? b = some o → (((s.heap.update a (Obj.mapSeq fun _ => #[])).push { cls := .type "tuple", data := .seq vs.toArray.toList.toArray }).push { cls := .type "list", data := .seq ([] : List Value).toArray }).get? b = some o := fun b o hb h =>
    Heap.get?_push_of_some _ (Heap.get?_push_of_some _ (Heap.get?_update_of_ne _ (Ne.symm hb) h))
  have e2 : (((s.heap.update a (Obj.mapSeq fun _ => #[])).push { cls := .type "tuple", data := .seq vs.toArray.toList.toArray }).push { cls := .type "list", data := .seq ([] : List Value).toArray }).get? a = some (seqObj "list" #[] _) := Heap.get?_push_of_some _ (Heap.get?_push_of_some _ e1)
  refine wpAny_bind (hK _ keep _ _ fun k0 hL => ?_)
  refine wpAny_bind ?_
  have B : SB k0 (pairsOf vs) (SortSt.mk' k0 (vs.toArray.zip vs.toArray) #[] 7 none) := ⟨Array.Perm.refl _, rfl, rfl, rfl⟩
  refine thn (w_runs (E := E) hL hk B (by rw [hps]; exact h2) (by rw [hps]; exact h64) (Q := fun _ st' => (arrOf st').Perm (pairsOf vs) ∧ failedOf st' = none ∧ SortedToK κ (arrOf st') (pairsOf vs).size) (fun st' a b c => ⟨a, b, c⟩)) fun r s' hr => ?_
  obtain ⟨⟨⟩, st'⟩ := r
  obtain ⟨rfl, p1, p2, p3⟩ := hr
  refine wpAny_bind (seqEpoch_at e2 rfl ?_)
  have hsz : ((arrOf st').map fun x => x.snd).size = vs.length := by rw [Array.size_map, p1.size_eq, hps]
  show wpAny _ _ (updateSeq a (fun x => (arrOf st').map fun x => x.snd) >>= _) _ _ _
  refine wpAny_bind (wpAny_updateSeq e2 rfl ?_ (by show 0 ≤ _; omega) (by show ((arrOf st').map fun x => x.snd).size ≤ _; rw [hsz]; rw [List.size_toArray] at hz; omega))
  rw [p2]
  rw [if_neg (by simp)]
  exact wpAny_pure (q st' p1 p3)
theorem w_sorted {l : Addr} {vs : List Value} {Q : Value → Shared → Prop} (hl : s.heap.IsList l vs.toArray) (hk : PyProof.Rows.KeysOf κ (pairsOf vs)) (h2 : 2 ≤ vs.length) (h64 : vs.length < 64)
    (hK : ∀ (A : Around) (s' : Shared), (∀ b o, s.heap.get? b = some o → s'.heap.get? b = some o) → ∀ (E : Value → Shared → Prop) (Q : SortKind → Shared → Prop), (∀ k0, LtAt prog w A s' k0 κ → Q k0 s') → wpAny (model prog w) A (keyKind' vs.toArray) Q E s')
    (q : ∀ (st' : SortSt), (arrOf st').Perm (pairsOf vs) → SortedToK κ (arrOf st') (pairsOf vs).size → Q (.ref (s.heap.objs.size + 1)) { s with heap := sortedAll s.heap vs ((arrOf st').map fun x => x.snd) }) :
    wpAny (model prog w) A (call (.builtin "sorted") [.ref l]) Q E s := by
  refine Calls.call_function_entry kind_sorted plain_sorted entry_sorted (args_sorted1 (.ref l)) ?_
  have hz : vs.length ≤ sizeLine := by rw [sizeLine_eq]; omega
  refine wpAny_bind (wpAny_pure (wpAny_bind (collect_list hl (wpAny_bind (wpAny_newList ?_ hz)) hz)))
  have hsz : ((s.heap.push (seqObj "list" #[] 0)).update s.heap.objs.size (Obj.mapSeq fun x => x ++ vs.toArray)).objs.size = s.heap.objs.size + 1 := by rw [Heap.size_update, size_push']
  have hoL : ((((s.heap.push (seqObj "list" #[] 0)).update s.heap.objs.size (Obj.mapSeq fun x => x ++ vs.toArray)).push (seqObj "list" vs.toArray 0)).get? (s.heap.objs.size + 1)) = some (seqObj "list" vs.toArray 0) := by
    rw [← hsz]; exact Heap.get?_push_size _ rfl
  have keep : ∀ b o, s.heap.get? b = some o → (((s.heap.push (seqObj "list" #[] 0)).update s.heap.objs.size (Obj.mapSeq fun x => x ++ vs.toArray)).push (seqObj "list" vs.toArray 0)).get? b = some o := fun b o h =>
    Heap.get?_push_of_some _ (Heap.get?_update_of_ne _ (Nat.ne_of_gt (Heap.lt_size h)) (Heap.get?_push_of_some _ h))
  show wpAny _ _ (holding [.ref ((s.heap.push (seqObj "list" #[] 0)).update s.heap.objs.size (Obj.mapSeq fun x => x ++ vs.toArray)).objs.size] (call (.builtin "list.sort") [.ref ((s.heap.push (seqObj "list" #[] 0)).update s.heap.objs.size (Obj.mapSeq fun x => x ++ vs.toArray)).objs.size]) >>= fun _ => ret (.ref ((s.heap.push (seqObj "list" #[] 0)).update s.heap.objs.size (Obj.mapSeq fun x => x ++ vs.toArray)).objs.size)) _ _ _
  rw [hsz]
  refine wpAny_bind (wpAny_holding (wpAny_call_entry slot_list_sort ⟨_, hoL, rfl⟩ entry_list_sort ?_ (args_list_sort _)))
  refine w_sort hoL hk h2 h64 (fun s' hk' => hK _ s' fun b o h => hk' b o (Nat.ne_of_lt (Nat.lt_of_lt_of_le (Heap.lt_size h) (Nat.le_succ _))) (keep b o h)) fun st' p1 p3 => ?_
  exact ⟨_, rfl, wpAny_pure ⟨_, rfl, q st' p1 p3⟩⟩
end
end L2

set_option Elab.async false
set_option linter.all false
set_option maxRecDepth 100000
/-! MY LAYER, 23: the order of tuples of ints and texts; sorted of such -/
namespace L2
open PySem PySem.Spec PyProof.Rows
/-- ints, then texts -/
def kLt : Key → Key → Bool
  | .inl i, .inl j => decide (i < j)
  | .inr x, .inr y => decide (x.cps.toList < y.cps.toList)
  | .inl _, .inr _ => true
  | .inr _, .inl _ => false
theorem kLt_irrefl : ∀ a : Key, kLt a a = false
  | .inl i => decide_eq_false (by omega)
  | .inr x => decide_eq_false (List.lt_irrefl _)
theorem kLt_trans : ∀ a b c : Key, kLt a b = true → kLt b c = true → kLt a c = true
  | .inl i, .inl j, .inl k, h1, h2 => by have := of_decide_eq_true h1; have := of_decide_eq_true h2; exact decide_eq_true (by omega)
  | .inr x, .inr y, .inr z, h1, h2 => decide_eq_true (List.lt_trans (of_decide_eq_true h1) (of_decide_eq_true h2))
  | .inl _, .inl _, .inr _, _, _ => rfl
  | .inl _, .inr _, .inr _, _, _ => rfl
  | .inl _, .inr _, .inl _, _, h => by cases h
  | .inr _, .inl _, _, h, _ => by cases h
  | .inr _, .inr _, .inl _, _, h => by cases h
theorem kLt_total : ∀ a b : Key, kLt a b = false → kLt b a = false → a = b
  | .inl i, .inl j, h1, h2 => by have := of_decide_eq_false h1; have := of_decide_eq_false h2; congr 1; omega
  | .inr x, .inr y, h1, h2 => by
    have a1 : ¬ x.cps.toList < y.cps.toList := of_decide_eq_false h1
    have a2 : ¬ y.cps.toList < x.cps.toList := of_decide_eq_false h2
    have e : x.cps.toList = y.cps.toList := List.le_antisymm a2 a1
    obtain ⟨xs⟩ := x
    obtain ⟨ys⟩ := y
    congr 2
    exact Array.toList_inj.mp e
  | .inl _, .inr _, h, _ => by cases h
  | .inr _, .inl _, _, h => by cases h
def lexB : List Key → List Key → Bool
  | [], [] => false
  | [], _ :: _ => true
  | _ :: _, [] => false
  | x :: xs, y :: ys => if x = y then lexB xs ys else kLt x y
theorem lexB_cons (x y : Key) (xs ys : List Key) : lexB (x :: xs) (y :: ys) = if x = y then lexB xs ys else kLt x y := rfl
theorem lexB_irrefl : ∀ a : List Key, lexB a a = false
  | [] => rfl
  | x :: r => by unfold lexB; rw [if_pos rfl]; exact lexB_irrefl r
theorem lexB_trans : ∀ a b c : List Key, lexB a b = true → lexB b c = true → lexB a c = true
  | [], [], _, h, _ => by cases h
  | [], _ :: _, [], _, h => by cases h
  | [], _ :: _, _ :: _, _, _ => rfl
  | _ :: _, [], _, h, _ => by cases h
  | _ :: _, _ :: _, [], _, h => by cases h
  | x :: r, y :: s, z :: t, h1, h2 => by
    have ih := lexB_trans r s t
    unfold lexB at h1 h2 ⊢
    by_cases e1 : x = y
    · rw [if_pos e1] at h1
      by_cases e2 : y = z
      · rw [if_pos e2] at h2
        rw [if_pos (e1.trans e2)]
        exact ih h1 h2
      · rw [if_neg e2] at h2
        rw [if_neg (fun e => e2 (e1.symm.trans e)), e1]
        exact h2
    · rw [if_neg e1] at h1
      by_cases e2 : y = z
      · rw [if_neg (fun e => e1 (e.trans e2.symm)), ← e2]
        exact h1
      · rw [if_neg e2] at h2
        have h3 := kLt_trans _ _ _ h1 h2
        rw [if_neg (fun e => by rw [e, kLt_irrefl] at h3; cases h3)]
        exact h3
theorem lexB_total : ∀ a b : List Key, lexB a b = false → lexB b a = false → a = b
  | [], [], _, _ => rfl
  | [], _ :: _, h, _ => by cases h
  | _ :: _, [], _, h => by cases h
  | x :: r, y :: s, h1, h2 => by
    unfold lexB at h1 h2
    by_cases e : x = y
    · rw [if_pos e] at h1
      rw [if_pos e.symm] at h2
      rw [e, lexB_total r s h1 h2]
    · rw [if_neg e] at h1
      rw [if_neg fun z => e z.symm] at h2
      exact absurd (kLt_total _ _ h1 h2) e
theorem lexB_neg (a b c : List Key) (h : lexB a c = true) : lexB a b = true ∨ lexB b c = true := by
  by_cases h1 : lexB a b = true
  · exact .inl h1
  · by_cases h2 : lexB b a = true
    · exact .inr (lexB_trans _ _ _ h2 h)
    · have e := lexB_total a b (by simpa using h1) (by simpa using h2)
      rw [← e]; exact .inr h
def unV : V → Option Key
  | .int i => some (.inl i)
  | .str x => some (.inr x)
  | _ => none
def keysV : List V → Option (List Key)
  | [] => some []
  | x :: r => (unV x).bind fun k => (keysV r).map (k :: ·)
theorem unV_kV (k : Key) : unV (kV k) = some k := by cases k <;> rfl
theorem keysV_kV : ∀ ks : List Key, keysV (ks.map kV) = some ks
  | [] => rfl
  | k :: r => by show (unV (kV k)).bind _ = _; rw [unV_kV, keysV_kV r]; rfl
theorem unV_eq : ∀ {x : V} {k : Key}, unV x = some k → x = kV k
  | .int i, k, h => by cases h; rfl
  | .str z, k, h => by cases h; rfl
  | .non, _, h => by cases h
  | .bl _, _, h => by cases h
  | .byt _, _, h => by cases h
  | .flt _, _, h => by cases h
  | .ref _, _, h => by cases h
  | .ty _, _, h => by cases h
theorem keysV_eq : ∀ {xs : List V} {ks : List Key}, keysV xs = some ks → xs = ks.map kV
  | [], ks, h => by cases h; rfl
  | x :: r, ks, h => by
    unfold keysV at h
    cases hu : unV x with
    | none => rw [hu] at h; cases h
    | some k =>
      rw [hu] at h
      cases hr : keysV r with
      | none => rw [hr] at h; cases h
      | some ms => rw [hr] at h; cases h; rw [unV_eq hu, keysV_eq hr]; rfl
/-- which of them are ints -/
def shape (ks : List Key) : List Bool := ks.map fun k => k.isLeft
def tupOf (H : Hp) (sh : List Bool) : Value → Option (List Key)
  | .ref a => match H a with
    | some (.tup xs) => (keysV xs).bind fun ks => if shape ks = sh then some ks else none
    | _ => none
  | _ => none
theorem tupOf_at {H : Hp} {a : Addr} {ks : List Key} (h : H a = some (.tup (ks.map kV))) : tupOf H (shape ks) (.ref a) = some ks := by
  unfold tupOf
  dsimp only
  rw [h]
  show (keysV (ks.map kV)).bind _ = _
  rw [keysV_kV]
  show (if shape ks = shape ks then some ks else none) = _
  rw [if_pos rfl]
theorem tupOf_eq {H : Hp} {sh : List Bool} {v : Value} {ks : List Key} (h : tupOf H sh v = some ks) : ∃ a, v = .ref a ∧ H a = some (.tup (ks.map kV)) ∧ shape ks = sh := by
  unfold tupOf at h
  split at h
  · rename_i a
    split at h
    · rename_i xs hx
      cases hk : keysV xs with
      | none => rw [hk] at h; cases h
      | some ms =>
        rw [hk] at h
        have h' : (if shape ms = sh then some ms else none) = some ks := h
        by_cases e : shape ms = sh
        · rw [if_pos e] at h'
          cases h'
          exact ⟨a, rfl, by rw [hx, keysV_eq hk], e⟩
        · rw [if_neg e] at h'; cases h'
    · cases h
  · cases h
def tupKind (H : Hp) (sh : List Bool) : PyProof.Rows.KeyKind := ⟨⟨List Key, lexB, lexB_irrefl, lexB_trans, fun a b c h => lexB_neg a b c h, lexB_total⟩, tupOf H sh, []⟩
section
variable {prog : Program} {w : World} {A : Around} {E : Value → Shared → Prop} {s : Shared}
theorem eq_key {k m : Key} {p q : Value} (hp : RelV (kV k) p) (hq : RelV (kV m) q) (hs : k.isLeft = m.isLeft) {Q : Bool → Shared → Prop} (h : Q (decide (k = m)) s) : wpAny (model prog w) A (eqBool p q) Q E s := by
  cases k with
  | inl i =>
    cases m with
    | inl j =>
      obtain ⟨t, rfl⟩ := hp
      obtain ⟨u, rfl⟩ := hq
      refine wpAny_eqBool_int ?_
      have e : (i == j) = decide ((Sum.inl i : Key) = Sum.inl j) := by
        by_cases z : i = j
        · rw [z]; simp
        · rw [decide_eq_false (fun e => z (Sum.inl.inj e))]; simpa using z
      rw [e]; exact h
    | inr y => cases hs
  | inr x =>
    cases m with
    | inl j => cases hs
    | inr y =>
      obtain ⟨t, rfl⟩ := hp
      obtain ⟨u, rfl⟩ := hq
      refine wpAny_eqBool_str ?_
      have e : decide (x = y) = decide ((Sum.inr x : Key) = Sum.inr y) := decide_eq_decide.mpr ⟨fun z => by rw [z], fun z => Sum.inr.inj z⟩
      rw [e]; exact h
theorem lt_key {c : Bool} {k m : Key} {p q : Value} (hp : RelV (kV k) p) (hq : RelV (kV m) q) (hs : k.isLeft = m.isLeft) {Q : Bool → Shared → Prop} (h : Q (kLt k m) s) : wpAny (model prog w) A (oneLt' c p q) Q E s := by
  cases k with
  | inl i =>
    cases m with
    | inl j =>
      obtain ⟨t, rfl⟩ := hp
      obtain ⟨u, rfl⟩ := hq
      cases c with
      | true => exact oneLt_int h
      | false =>
        rw [oneLt'_eq]
        show wpAny _ _ (richCompare .Lt (.int i t) (.int j u) >>= _) _ _ _
        refine wpAny_bind (show wpAny (model prog w) A (compareOp .Lt (.int i t) (.int j u)) _ _ _ from PyProof.Rows.lt_int ?_)
        exact wpAny_pure h
    | inr y => cases hs
  | inr x =>
    cases m with
    | inl j => cases hs
    | inr y =>
      obtain ⟨t, rfl⟩ := hp
      obtain ⟨u, rfl⟩ := hq
      cases c with
      | true => exact oneLt_str h
      | false =>
        rw [oneLt'_eq]
        show wpAny _ _ (richCompare .Lt (.str x t) (.str y u) >>= _) _ _ _
        refine wpAny_bind (show wpAny (model prog w) A (compareOp .Lt (.str x t) (.str y u)) _ _ _ from PyProof.Rows.lt_str ?_)
        exact wpAny_pure h
/-- the order of two tuples as sorting asks it -/
theorem lt_tup {b : Bool} {x y : Addr} {ks ms : List Key} {its its2 : List Value} (hx : IsTup s.heap x its.toArray) (hy : IsTup s.heap y its2.toArray) (rx : Vals (ks.map kV) its) (ry : Vals (ms.map kV) its2) (hs : shape ks = shape ms) {Q : Bool → Shared → Prop}
    (h : Q (lexB ks ms) s) : wpAny (model prog w) A (keyLt' (tuples' b) (.ref x) (.ref y)) Q E s := by
  obtain ⟨o1, ho1, _, n1, hd1⟩ := hx
  obtain ⟨o2, ho2, _, n2, hd2⟩ := hy
  show wpAny _ _ (Builtin.List.listItems (.ref x) >>= _) _ _ _
  refine wpAny_bind (listItems_at ho1 hd1 (wpAny_bind (listItems_at ho2 hd2 (wpAny_bind ?_))))
  have hl1 := rx.length
  have hl2 := ry.length
  have hl3 : ks.length = ms.length := by have := congrArg List.length hs; simpa [shape] using this
  rw [List.length_map] at hl1 hl2
  refine wpAny_forIn_list _ (fun rest c s' => c = (none, ()) ∧ s' = s ∧ ∃ (vs ws : List Value) (k : Nat) (ks' ms' : List Key), rest = (vs.zip ws).zipIdx k ∧ Vals (ks'.map kV) vs ∧ Vals (ms'.map kV) ws ∧ shape ks' = shape ms' ∧ lexB ks ms = lexB ks' ms') _ ?_ ?_ _ _ ⟨rfl, rfl, its, its2, 0, ks, ms, by simp, rx, ry, hs, rfl⟩
  · rintro ⟨⟨p, q⟩, i⟩ rest c s' ⟨rfl, rfl, vs, ws, k, ks', ms', hz, rv, rw', hs', he⟩
    cases ks' with
    | nil => cases rv; cases hz
    | cons k1 kr =>
      cases ms' with
      | nil => cases hs'
      | cons m1 mr =>
        cases rv with
        | cons r1 rr =>
          cases rw' with
          | cons r1' rr' =>
            rw [List.zip_cons_cons, List.zipIdx_cons] at hz
            injection hz with h1 h2
            injection h1 with h3 h4
            injection h3 with h5 h6
            subst h4 h5 h6
            unfold shape at hs'
            rw [List.map_cons, List.map_cons] at hs'
            injection hs' with s1 s2
            refine wpAny_bind (eq_key r1 r1' s1 ?_)
            rw [lexB_cons] at he
            by_cases e : k1 = m1
            · rw [if_pos e] at he
              rw [decide_eq_true e]
              exact wpAny_pure ⟨rfl, rfl, _, _, _, kr, mr, h2, rr, rr', s2, he⟩
            · rw [if_neg e] at he
              rw [decide_eq_false e]
              refine wpAny_bind (lt_key r1 r1' s1 (wpAny_pure ?_))
              refine wpAny_pure ?_
              rw [← he]; exact h
  · rintro c s' ⟨rfl, rfl, vs, ws, k, ks', ms', hz, rv, rw', hs', he⟩
    refine wpAny_pure ?_
    have e : lexB ks' ms' = false := by
      cases ks' with
      | nil =>
        cases ms' with
        | nil => rfl
        | cons _ _ => cases hs'
      | cons k1 kr =>
        cases ms' with
        | nil => cases hs'
        | cons m1 mr =>
          cases rv with
          | cons r1 rr =>
            cases rw' with
            | cons r1' rr' => rw [List.zip_cons_cons, List.zipIdx_cons] at hz; cases hz
    rw [e] at he
    rw [he] at h
    have e2 : decide (its.toArray.size < its2.toArray.size) = false := decide_eq_false (by rw [List.size_toArray, List.size_toArray]; omega)
    rw [e2]; exact h
end
end L2

set_option Elab.async false
set_option linter.all false
set_option maxRecDepth 100000
/-! MY LAYER, 24: sorted(xs) of a list of tuples of ints and texts, fewer than 64 -/
namespace L2
open PySem PySem.Spec PyProof.Rows
section
variable {prog : Program} {w : World} {A : Around} {E : Value → Shared → Prop} {s : Shared}
theorem w_mapM {M : Model} {α β : Type} {f : α → Sem β} (R : α → β → Prop) : ∀ (l : List α) {Q : List β → Shared → Prop}, (∀ v ∈ l, ∃ r, R v r ∧ ∀ (Q' : β → Shared → Prop), Q' r s → wpAny M A (f v) Q' E s) → (∀ rs, rs.length = l.length → (∀ r ∈ rs, ∃ v ∈ l, R v r) → Q rs s) → wpAny M A (List.mapM f l) Q E s
  | [], Q, _, q => by rw [List.mapM_nil]; exact wpAny_pure (q [] rfl (fun r h => by cases h))
  | a :: l, Q, h, q => by
    rw [List.mapM_cons]
    obtain ⟨r, hr, hw⟩ := h a (by simp)
    refine wpAny_bind (hw _ (wpAny_bind (w_mapM R l (fun v hv => h v (List.mem_cons_of_mem _ hv)) fun rs hl hrs => wpAny_pure (q (r :: rs) (by simp [hl]) fun z hz => ?_))))
    rcases List.mem_cons.mp hz with rfl | hz
    · exact ⟨a, by simp, hr⟩
    · obtain ⟨v, hv, hR⟩ := hrs z hz
      exact ⟨v, List.mem_cons_of_mem _ hv, hR⟩
theorem w_mapA {M : Model} {α β : Type} {f : α → Sem β} (R : α → β → Prop) (l : Array α) {Q : Array β → Shared → Prop} (h : ∀ v ∈ l.toList, ∃ r, R v r ∧ ∀ (Q' : β → Shared → Prop), Q' r s → wpAny M A (f v) Q' E s) (q : ∀ rs : Array β, (∀ r ∈ rs.toList, ∃ v ∈ l.toList, R v r) → Q rs s) : wpAny M A (Array.mapM f l) Q E s := by
  rw [Array.mapM_eq_mapM_toList, map_eq_pure_bind]
  exact wpAny_bind (w_mapM R l.toList h fun rs _ hr => wpAny_pure (q rs.toArray (by simpa using hr)))
theorem first_tup {a : Addr} {its : List Value} (ht : IsTup s.heap a its.toArray) {Q : Option Value → Shared → Prop} (q : Q its[0]? s) : wpAny (model prog w) A (firstOfTuple' (.ref a)) Q E s := by
  obtain ⟨o, ho, hc, n, hd⟩ := id ht
  show wpAny _ _ (typeOf (.ref a) >>= _) _ _ _
  refine wpAny_bind (wpAny_typeOf ht.typeIs ?_)
  rw [if_neg (by decide)]
  refine wpAny_bind (listItems_at ho hd (wpAny_pure ?_))
  simpa using q
theorem type_key {k : Key} {v : Value} (h : RelV (kV k) v) {Q : Value → Shared → Prop} (q : Q (.type (if k.isLeft then "int" else "str")) s) : wpAny (model prog w) A (typeOf v) Q E s := by
  cases k with
  | inl i => obtain ⟨t, rfl⟩ := h; exact wpAny_typeOf (T := "int") rfl q
  | inr x => obtain ⟨t, rfl⟩ := h; exact wpAny_typeOf (T := "str") rfl q
/-- what kind the sort finds -/
theorem kind_tup {vs : List Value} (h : ∀ v ∈ vs, ∃ (a : Addr) (its : List Value) (k : Key) (v0 : Value), v = .ref a ∧ IsTup s.heap a its.toArray ∧ its[0]? = some v0 ∧ RelV (kV k) v0) {Q : SortKind → Shared → Prop} (q : ∀ b, Q (tuples' b) s) : wpAny (model prog w) A (keyKind' vs.toArray) Q E s := by
  rw [keyKind'_eq]
  refine wpAny_bind (w_mapA (fun _ r => ∃ (k : Key) (v0 : Value), r = some v0 ∧ RelV (kV k) v0) _ (fun v hv => ?_) fun firsts hf => ?_)
  · obtain ⟨a, its, k, v0, rfl, ht, h0, hr⟩ := h v (by simpa using hv)
    exact ⟨its[0]?, ⟨k, v0, h0, hr⟩, fun Q' q' => first_tup ht q'⟩
  · have hall : (firsts.all fun x => x.isSome) = true := by
      rw [Array.all_eq_true]
      intro i hi
      obtain ⟨v, _, k, v0, e, _⟩ := hf firsts[i] (by simp)
      rw [e]; rfl
    rw [if_pos hall]
    refine wpAny_bind (wpAny_rule (wpAny_bind ?_))
    rw [oneTypeOnly'_eq]
    refine wpAny_bind (w_mapA (fun _ _ => True) _ (fun v hv => ?_) fun ts _ => ?_)
    · have hv' : v ∈ (Array.filterMap id firsts).toList := hv
      rw [Array.toList_filterMap] at hv'
      obtain ⟨o, ho, eo⟩ := List.mem_filterMap.mp hv'
      obtain ⟨_, _, k, v0, e, hr⟩ := hf o ho
      have e2 : v0 = v := by
        have : o = some v := eo
        rw [e] at this; exact Option.some.inj this
      subst e2
      exact ⟨_, trivial, fun Q' q' => type_key hr q'⟩
    · split
      · exact wpAny_pure (wpAny_pure (q _))
      · exact wpAny_pure (wpAny_pure (q _))
/-- lists of fewer than two -/
theorem w_sort0 {a : Addr} {vs : List Value} {n : Nat} {P : PySem.Fin → Shared → Prop} (ha : s.heap.get? a = some (seqObj "list" vs.toArray n)) (h2 : vs.length < 2)
    (q : P (Fin.done (Flow.ret Value.none)) { s with heap := sortedHeap s.heap a vs ((pairsOf vs).map fun x => x.snd) }) :
    wpAny (model prog w) A (Builtin.«list.sort» { pos := [.ref a] }) P E s := by
  have hz : vs.toArray.size ≤ sizeLine := by rw [List.size_toArray, sizeLine_eq]; omega
  rw [list_sort_plain]
  refine wpAny_bind (listItems_at ha rfl ?_)
  show wpAny _ _ (updateSeq a (fun x => #[]) >>= _) _ _ _
  refine wpAny_bind (wpAny_updateSeq ha rfl ?_ hz (by show 0 ≤ _; omega))
  have e1 := get?_update_seq ha (fun _ => #[])
  refine wpAny_bind (seqEpoch_at e1 rfl ?_)
  refine wpAny_bind (wpAny_newTuple ?_ (by simpa using hz))
  refine wpAny_bind (wpAny_newList ?_ (by show 0 ≤ _; omega))
  refine wpAny_holding ?_
  have hn2 : vs.toArray.size < 2 := by rw [List.size_toArray]; omega
  have hps : (pairsOf vs).size = vs.length := by unfold pairsOf; simp
  rw [if_pos hn2, if_pos hn2]
  have e2 : (((s.heap.update a (Obj.mapSeq fun _ => #[])).push { cls := .type "tuple", data := .seq vs.toArray.toList.toArray }).push { cls := .type "list", data := .seq ([] : List Value).toArray }).get? a = some (seqObj "list" #[] _) := Heap.get?_push_of_some _ (Heap.get?_push_of_some _ e1)
  refine wpAny_bind (wpAny_pure ?_)
  show wpAny _ _ (pure ((), SortSt.mk' general' (vs.toArray.zip vs.toArray) #[] 7 none) >>= _) _ _ _
  refine wpAny_bind (wpAny_pure ?_)
  refine wpAny_bind (seqEpoch_at e2 rfl ?_)
  have hsz : ((pairsOf vs).map fun x => x.snd).size = vs.length := by rw [Array.size_map, hps]
  show wpAny _ _ (updateSeq a (fun x => (pairsOf vs).map fun x => x.snd) >>= _) _ _ _
  refine wpAny_bind (wpAny_updateSeq e2 rfl ?_ (by show 0 ≤ _; omega) (by show ((pairsOf vs).map fun x => x.snd).size ≤ _; rw [hsz]; rw [List.size_toArray] at hz; omega))
  show wpAny _ _ (if _ then _ else _) _ _ _
  rw [if_neg (by simp)]
  exact wpAny_pure q
theorem w_sorted0 {l : Addr} {vs : List Value} {Q : Value → Shared → Prop} (hl : s.heap.IsList l vs.toArray) (h2 : vs.length < 2)
    (q : Q (.ref (s.heap.objs.size + 1)) { s with heap := sortedAll s.heap vs ((pairsOf vs).map fun x => x.snd) }) :
    wpAny (model prog w) A (call (.builtin "sorted") [.ref l]) Q E s := by
  refine Calls.call_function_entry kind_sorted plain_sorted entry_sorted (args_sorted1 (.ref l)) ?_
  have hz : vs.length ≤ sizeLine := by rw [sizeLine_eq]; omega
  refine wpAny_bind (wpAny_pure (wpAny_bind (collect_list hl (wpAny_bind (wpAny_newList ?_ hz)) hz)))
  have hsz : ((s.heap.push (seqObj "list" #[] 0)).update s.heap.objs.size (Obj.mapSeq fun x => x ++ vs.toArray)).objs.size = s.heap.objs.size + 1 := by rw [Heap.size_update, size_push']
  have hoL : ((((s.heap.push (seqObj "list" #[] 0)).update s.heap.objs.size (Obj.mapSeq fun x => x ++ vs.toArray)).push (seqObj "list" vs.toArray 0)).get? (s.heap.objs.size + 1)) = some (seqObj "list" vs.toArray 0) := by
    rw [← hsz]; exact Heap.get?_push_size _ rfl
  show wpAny _ _ (holding [.ref ((s.heap.push (seqObj "list" #[] 0)).update s.heap.objs.size (Obj.mapSeq fun x => x ++ vs.toArray)).objs.size] (call (.builtin "list.sort") [.ref ((s.heap.push (seqObj "list" #[] 0)).update s.heap.objs.size (Obj.mapSeq fun x => x ++ vs.toArray)).objs.size]) >>= fun _ => ret (.ref ((s.heap.push (seqObj "list" #[] 0)).update s.heap.objs.size (Obj.mapSeq fun x => x ++ vs.toArray)).objs.size)) _ _ _
  rw [hsz]
  refine wpAny_bind (wpAny_holding (wpAny_call_entry slot_list_sort ⟨_, hoL, rfl⟩ entry_list_sort ?_ (args_list_sort _)))
  exact w_sort0 hoL h2 ⟨_, rfl, wpAny_pure ⟨_, rfl, q⟩⟩
end
end L2

set_option Elab.async false
set_option linter.all false
set_option maxRecDepth 100000
/-! MY LAYER, 25: the rule for sorted(xs) of tuples -/
namespace L2
open PySem PySem.Spec PyProof.Rows
theorem perm_map {α β : Type} (f : α → β) {l m : List β} (h : l.Perm m) : ∀ ts : List α, m = ts.map f → ∃ ts' : List α, ts'.Perm ts ∧ l = ts'.map f := by
  induction h with
  | nil =>
    intro ts e
    have : ts = [] := by cases ts with
      | nil => rfl
      | cons _ _ => cases e
    subst this
    exact ⟨[], .nil, rfl⟩
  | cons x _ ih =>
    intro ts e
    cases ts with
    | nil => cases e
    | cons a r =>
      rw [List.map_cons] at e
      injection e with e1 e2
      obtain ⟨ts', p, e3⟩ := ih r e2
      exact ⟨a :: ts', p.cons a, by rw [List.map_cons, e1, e3]⟩
  | swap x y l =>
    intro ts e
    cases ts with
    | nil => cases e
    | cons a r =>
      cases r with
      | nil => cases e
      | cons b r =>
        rw [List.map_cons, List.map_cons] at e
        injection e with e1 e2
        injection e2 with e2 e3
        exact ⟨b :: a :: r, .swap a b r, by rw [List.map_cons, List.map_cons, e1, e2, e3]⟩
  | trans _ _ ih1 ih2 =>
    intro ts e
    obtain ⟨ts2, p2, e2⟩ := ih2 ts e
    obtain ⟨ts1, p1, e1⟩ := ih1 ts2 e2
    exact ⟨ts1, p1.trans p2, e1⟩
theorem zip_self {α : Type} : ∀ l : List α, l.zip l = l.map fun v => (v, v)
  | [] => rfl
  | a :: r => by rw [List.zip_cons_cons, zip_self r]; rfl
/-- tuples of keys at addresses -/
abbrev TupL := List (Addr × List Key)
def refs (ts : TupL) : List V := ts.map fun t => V.ref t.1
def AtT (H : Hp) (ts : TupL) : Prop := ∀ t ∈ ts, H t.1 = some (.tup (t.2.map kV))
theorem vals_refs : ∀ {ts : TupL} {us : List Value}, Vals (refs ts) us → us = ts.map fun t => Value.ref t.1
  | [], _, h => by cases h; rfl
  | t :: r, _, h => by
    cases h with
    | cons a b => rw [vals_refs b]; cases a; rfl
theorem refs_vals : ∀ ts : TupL, Vals (refs ts) (ts.map fun t => Value.ref t.1)
  | [] => .nil
  | t :: r => .cons rfl (refs_vals r)
def rSrtT (K : PySem.W.Frag) : List V → Hp → VK → Prop := fun xs H Q => ∃ (p : Addr) (ts : TupL) (sh : List Bool), xs = [.ref p] ∧ SqL K H p (refs ts) ∧ AtT H ts ∧ sh ≠ [] ∧ (∀ t ∈ ts, shape t.2 = sh) ∧ ts.length < 64 ∧
  ∀ (l : Addr) (ts' : TupL), H l = none → ts'.Perm ts → ts'.Pairwise (fun a b => lexB b.2 a.2 = false) → Q (.ref l) (upd H l (.lst (refs ts')))
theorem call_sortedT {X : Cx} : CallR X (.builtin "sorted") (rSrtT X.K) := by
  intro pins s σ H xs us Q I r h
  obtain ⟨p, ts, sh, rfl, hq, hat, hsh, hts, h64, q⟩ := h
  obtain ⟨u, rfl, rx⟩ := vals1 r
  cases rx
  obtain ⟨its, rv, pl, hz⟩ := I.list hq
  have ei := vals_refs rv
  subst ei
  have tupAt : ∀ t ∈ ts, ∃ its : List Value, Vals (t.2.map kV) its ∧ IsTup s.heap t.1 its.toArray := fun t ht => by
    obtain ⟨i, v, q, _⟩ := I.tuple (SqT.of (K := X.K) (hat t ht))
    exact ⟨i, v, q⟩
  have eptl : (pairsOf (ts.map fun t => Value.ref t.1)).toList = ts.map fun t => (Value.ref t.1, Value.ref t.1) := by
    unfold pairsOf
    rw [Array.toList_zip, zip_self, List.map_map]
    rfl
  have fin : ∀ (out : Array Value) (ts' : TupL), ts'.Perm ts → ts'.Pairwise (fun a b => lexB b.2 a.2 = false) → out.toList = ts'.map (fun t => Value.ref t.1) → EP X pins σ Q (.ref (s.heap.objs.size + 1)) { s with heap := sortedAll s.heap (ts.map fun t => Value.ref t.1) out } := fun out ts' pm pw eo => by
    obtain ⟨e, he⟩ := sortedAll_at s.heap (ts.map fun t => Value.ref t.1) out
    refine ⟨.ref (s.heap.objs.size + 1), _, I.laid (t' := s.toks) (o := .lst (refs ts')) (fun _ _ => sortedAll_old) (Nat.le_succ _) ⟨?_, out.toList, e, by rw [eo]; exact refs_vals ts', by simpa using he⟩, rfl, q _ ts' (I.hok.fresh (Nat.le_succ _)) pm pw⟩
    unfold refs
    rw [List.length_map, pm.length_eq, sizeLine_eq]; omega
  by_cases h2 : ts.length < 2
  · refine w_sorted0 pl.isList (by rw [List.length_map]; exact h2) (fin _ ts (.refl _) ?_ ?_)
    · cases ts with
      | nil => exact .nil
      | cons t r =>
        have : r = [] := List.eq_nil_of_length_eq_zero (by rw [List.length_cons] at h2; omega)
        subst this
        exact List.pairwise_singleton _ _
    · rw [Array.toList_map, eptl, List.map_map]; rfl
  · have hk : PyProof.Rows.KeysOf (tupKind H sh) (pairsOf (ts.map fun t => Value.ref t.1)) := fun z hz' => by
      rw [eptl] at hz'
      obtain ⟨t, ht, rfl⟩ := List.mem_map.mp hz'
      exact ⟨t.2, by rw [← hts t ht]; exact tupOf_at (hat t ht)⟩
    refine w_sorted (κ := tupKind H sh) pl.isList hk (by rw [List.length_map]; omega) (by rw [List.length_map]; exact h64) (fun A' s' kp E' Q' q' => ?_) fun st' p1 p3 => ?_
    · have tup' : ∀ {a : Addr} {its : List Value}, IsTup s.heap a its.toArray → IsTup s'.heap a its.toArray := fun ⟨o, ho, hc⟩ => ⟨o, kp _ _ ho, hc⟩
      refine kind_tup (fun v hv => ?_) fun b => q' _ fun E2 x y a c Q2 hx hy h2 => ?_
      · obtain ⟨t, ht, rfl⟩ := List.mem_map.mp hv
        obtain ⟨i, v, qt⟩ := tupAt t ht
        have hs1 := hts t ht
        cases hk2 : t.2 with
        | nil => rw [hk2] at hs1; exact absurd hs1.symm hsh
        | cons k kr =>
          rw [hk2] at v
          cases v with
          | cons r1 rr => exact ⟨t.1, _, k, _, rfl, tup' qt, rfl, r1⟩
      · obtain ⟨a1, rfl, ha1, s1⟩ := tupOf_eq hx
        obtain ⟨a2, rfl, ha2, s2⟩ := tupOf_eq hy
        obtain ⟨i1, v1, t1, _⟩ := I.tuple (SqT.of (K := X.K) ha1)
        obtain ⟨i2, v2, t2, _⟩ := I.tuple (SqT.of (K := X.K) ha2)
        exact lt_tup (tup' t1) (tup' t2) v1 v2 (s1.trans s2.symm) h2
    · have p1' := p1.toList
      obtain ⟨ts', pm, e⟩ := perm_map (fun t : Addr × List Key => (Value.ref t.1, Value.ref t.1)) p1' ts eptl
      refine fin _ ts' pm ?_ ?_
      · rw [List.pairwise_iff_getElem]
        intro i j hi hj hij
        have hsz : (pairsOf (ts.map fun t => Value.ref t.1)).size = ts'.length := by rw [← Array.length_toList, eptl, List.length_map, pm.length_eq]
        have := p3 i j (by omega) (by rw [hsz]; exact hj)
        have key : ∀ k (hk' : k < ts'.length), KK (tupKind H sh) (arrOf st') k = ts'[k].2 := fun k hk' => by
          unfold KK
          have e1 : (arrOf st')[k]? = some (Value.ref ts'[k].1, Value.ref ts'[k].1) := by
            rw [← Array.getElem?_toList, e, List.getElem?_map, List.getElem?_eq_getElem hk']; rfl
          rw [e1]
          have hm : ts'[k] ∈ ts := pm.mem_iff.mp (List.getElem_mem hk')
          show ((tupOf H sh (.ref ts'[k].1)).getD _) = _
          rw [← hts _ hm, tupOf_at (hat _ hm)]; rfl
        rw [key i hi, key j hj] at this
        exact this
      · rw [Array.toList_map, e, List.map_map]; rfl
theorem srtT {X : Cx} (K : PySem.W.Frag) (h : X.K = K := by rfl) : CallR X (.builtin "sorted") (rSrtT K) := by subst h; exact call_sortedT
end L2

set_option Elab.async false
set_option linter.all false
set_option maxRecDepth 100000
/-! MY LAYER, 26: t < u of tuples of ints and texts -/
namespace L2
open PySem PySem.Spec PyProof.Rows
theorem eqAt_key (A : Around) (s : Shared) {k m : Key} {p q : Value} (hp : RelV (kV k) p) (hq : RelV (kV m) q) (hs : k.isLeft = m.isLeft) : ∃ e, SeqAt.EqAt A s p q e ∧ (e = true ↔ k = m) := by
  cases k with
  | inl i =>
    cases m with
    | inl j =>
      obtain ⟨t, rfl⟩ := hp
      obtain ⟨u, rfl⟩ := hq
      exact ⟨_, SeqAt.EqAt.int_int i t j u, by simp⟩
    | inr y => cases hs
  | inr x =>
    cases m with
    | inl j => cases hs
    | inr y =>
      obtain ⟨t, rfl⟩ := hp
      obtain ⟨u, rfl⟩ := hq
      exact ⟨_, SeqAt.EqAt.str_str x t y u, by simp⟩
theorem rcLt_key (A : Around) (s : Shared) {k m : Key} {p q : Value} (hp : RelV (kV k) p) (hq : RelV (kV m) q) (hs : k.isLeft = m.isLeft) (prog : Program) (w : World) (E : Value → Shared → Prop) (Q : Value → Shared → Prop) (h : Q (.bool (kLt k m)) s) :
    wpAny (model prog w) A (richCompare .Lt p q) Q E s := by
  cases k with
  | inl i =>
    cases m with
    | inl j =>
      obtain ⟨t, rfl⟩ := hp
      obtain ⟨u, rfl⟩ := hq
      exact (PyProof.Rows.lt_int h : wpAny (model prog w) A (compareOp .Lt (.int i t) (.int j u)) Q E s)
    | inr y => cases hs
  | inr x =>
    cases m with
    | inl j => cases hs
    | inr y =>
      obtain ⟨t, rfl⟩ := hp
      obtain ⟨u, rfl⟩ := hq
      exact (PyProof.Rows.lt_str h : wpAny (model prog w) A (compareOp .Lt (.str x t) (.str y u)) Q E s)
section
open PySem.SeqAt
open PySem.AutoSeq1 (wpAny_loadPart')
open PySem.MeetsSeq PySem.MeetsSeq2 PySem.MeetsSeq3
theorem tuple_lt_keys (l b : Addr) (items items2 : Array Value) (n n2 : Nat) (dd dd2 : Option Addr) (sl sl2 : Array (Option Value)) (ks ms : List Key) (hi : Vals (ks.map kV) items.toList) (hj : Vals (ms.map kV) items2.toList) (hs : shape ks = shape ms) :
    Meets (Builtin.«tuple.__lt__» ⟨[.ref l, .ref b], []⟩)
      (fun _ R s => s.heap.get? l = some { cls := .type "tuple", dict := dd, data := .seq items n, slots := sl } ∧ s.heap.get? b = some { cls := .type "tuple", dict := dd2, data := .seq items2 n2, slots := sl2 } ∧
        R (.ok (.ret (.bool (lexB ks ms)))) s) :=
  .of_wp fun prog w A R s h => by
    obtain ⟨hp, g, d, tk, os⟩ := s; obtain ⟨hl, hb, h⟩ := h
    have f2 := AutoSeq1.sub_tuple_tuple
    have z1 : items.size = ks.length := by have := hi.length; simpa using this.symm
    have z2 : items2.size = ms.length := by have := hj.length; simpa using this.symm
    have z3 : ks.length = ms.length := by have := congrArg List.length hs; simpa [shape] using this
    wp_walk using wpAny_loadPart' hl, wpAny_loadPart' hb, wpAny_forIn_list _ (fun rest b s' => b.1 = none ∧ s' = ⟨hp, g, d, tk, os⟩ ∧ ∃ (vs ws : List Value) (ks' ms' : List Key), rest = vs.zip ws ∧
      Vals (ks'.map kV) vs ∧ Vals (ms'.map kV) ws ∧ shape ks' = shape ms' ∧ R (.ok (.ret (.bool (lexB ks' ms')))) ⟨hp, g, d, tk, os⟩) _
    case turn =>
      rintro ⟨y, x⟩ rest b s' ⟨hb', rfl, vs, ws, ks', ms', hz, hvi, hwi, hsh, hR⟩
      cases ks' with
      | nil => cases hvi; rw [List.zip_nil_left] at hz; cases hz
      | cons k1 kr =>
        cases ms' with
        | nil => cases hsh
        | cons m1 mr =>
          cases hvi with
          | cons r1 rr =>
            cases hwi with
            | cons r1' rr' =>
              rw [List.zip_cons_cons] at hz
              injection hz with hyx hrest
              injection hyx with hy hx
              subst hy hx
              rw [lexB_cons] at hR
              unfold shape at hsh
              rw [List.map_cons, List.map_cons] at hsh
              injection hsh with s1 s2
              obtain ⟨e, he, hiff⟩ := eqAt_key A.in1 ⟨hp, g, d, tk, os⟩ r1 r1' s1
              refine wpAny_bind (he prog w _ _ ?_)
              cases e with
              | true =>
                rw [if_pos (hiff.mp rfl)] at hR
                wp_walk
                exact ⟨rfl, rfl, _, _, _, _, hrest, rr, rr', s2, hR⟩
              | false =>
                rw [if_neg (fun q => absurd (hiff.mpr q) Bool.false_ne_true)] at hR
                have hri := rcLt_key A.in1 ⟨hp, g, d, tk, os⟩ r1 r1' s1 prog w
                wp_walk using hri
                exact ⟨_, rfl, by simpa using hR⟩
    case fin =>
      rintro ⟨b1, b2⟩ s' ⟨hb', rfl, vs, ws, ks', ms', hz, hvi, hwi, hsh, hR⟩
      simp only at hb'
      subst hb'
      have hv : lexB ks' ms' = decide (items.size < items2.size) := by
        rw [decide_eq_false (by omega)]
        cases ks' with
        | nil =>
          cases ms' with
          | nil => rfl
          | cons _ _ => cases hsh
        | cons k1 kr =>
          cases ms' with
          | nil => cases hsh
          | cons m1 mr =>
            cases hvi with
            | cons r1 rr =>
              cases hwi with
              | cons r1' rr' => rw [List.zip_cons_cons] at hz; cases hz
      rw [hv] at hR
      wp_walk
      exact ⟨_, rfl, by simpa [Builtin.Tuple.tupleCompareSizes] using hR⟩
    case h =>
      exact ⟨rfl, rfl, items.toList, items2.toList, ks, ms, rfl, hi, hj, hs, h⟩
end
section
variable {prog : Program} {w : World} {A : Around} {E : Value → Shared → Prop} {s : Shared}
theorem lt_tupKeys {l b : Addr} {items items2 : Array Value} {ks ms : List Key} {Q : Value → Shared → Prop} (hl : IsTup s.heap l items) (hb : IsTup s.heap b items2) (hi : Vals (ks.map kV) items.toList) (hj : Vals (ms.map kV) items2.toList) (hs : shape ks = shape ms)
    (hu : A.units < cLine) (h : Q (.bool (lexB ks ms)) s) : wpAny (model prog w) A (richCompare .Lt (.ref l) (.ref b)) Q E s := by
  obtain ⟨⟨cls, dd, data, sl⟩, ho, hc, n, hd⟩ := id hl
  obtain ⟨⟨cls2, dd2, data2, sl2⟩, ho2, hc2, n2, hd2⟩ := id hb
  simp only at hc hd hc2 hd2
  subst hc hd hc2 hd2
  exact richCompare_meets_room (op := .Lt) ⟨_, ho, rfl⟩ ⟨_, ho2, rfl⟩ PySem.F.slot_tuple_lt PySem.F.entry_tuple_lt (PySem.F.args_tuple_lt_2 _ _) (tuple_lt_keys l b items items2 n n2 dd dd2 sl sl2 ks ms hi hj hs)
    ⟨ho, ho2, show Value.bool (lexB ks ms) ≠ Value.notImplemented ∧ Q (.bool (lexB ks ms)) s from ⟨(fun x => nomatch x), h⟩⟩ hu
end
end L2

set_option Elab.async false
set_option linter.all false
set_option maxRecDepth 100000
/-! MY LAYER, 27: min(xs) of a list of tuples of ints and texts -/
namespace L2
open PySem PySem.Spec PyProof.Rows
section
variable {prog : Program} {w : World}
theorem min_units {A : Around} {a : Args} : (A.under (.builtin "min.loop" a)).units ≤ A.units + 1 := by
  show A.units + (Code.builtin "min.loop" a).cUnits ≤ A.units + 1
  first | exact Nat.le_refl _ | simp [Code.cUnits, Code.frames, Code.isFrame]
theorem min_loop {A : Around} {R : Result → Shared → Prop} {l I S : Addr} {ts : TupL} {sh : List Bool} {h0 : Heap} {kw : List (Str × Value)} (hh : A.handled = none) (hu : A.units + 4 < cLine) (hlist : h0.IsList l (ts.map fun t => Value.ref t.1).toArray)
    (hI : h0.get? I = none) (hS : h0.get? S = none) (hSI : S ≠ I) (htup : ∀ t ∈ ts, ∃ its : List Value, Vals (t.2.map kV) its ∧ IsTup h0 t.1 its.toArray) (hsh : ∀ t ∈ ts, shape t.2 = sh) (s0 : Shared)
    (q : ∀ (h' : Heap) (t : Addr × List Key), (∀ b o, h0.get? b = some o → h'.get? b = some o) → t ∈ ts → (∀ u ∈ ts, lexB u.2 t.2 = false) → R (.ok (.ret (.ref t.1))) { s0 with heap := h' }) :
    ∀ (k j : Nat) (h : Heap) (t : Addr × List Key) (c : Nat), ts.length - j = k → j ≤ ts.length → (∀ b o, h0.get? b = some o → h.get? b = some o) → h.IsListIter I l j → h.get? S = some { cls := .type "list", data := .seq #[.ref t.1, .ref t.1] c } → t ∈ ts →
      (∀ u ∈ ts.take j, lexB u.2 t.2 = false) → codeAny (model prog w) A (.builtin "min.loop" { pos := [.ref I, .none, .ref S], kw := kw }) R { s0 with heap := h }
  | k, j, h, t, c, hk, hj, keep, hit, hst, htm, hbest => by
    refine codeAny_builtin F.entry_min_loop ?_
    show wpAny _ _ (seqItems? (.ref S) >>= _) _ _ _
    refine wpAny_bind (wpAny_seqItems hst rfl ?_)
    have keepL : h.IsList l (ts.map fun t => Value.ref t.1).toArray := by
      obtain ⟨o, ho, r⟩ := hlist
      exact ⟨o, keep _ _ ho, r⟩
    by_cases hlt : j < ts.length
    · have hx : ((ts.map fun t => Value.ref t.1).toArray)[j]? = some (Value.ref ts[j].1) := by simp [hlt]
      refine wpAny_bind (wpAny_tryCatch (wpAny_pyNext_list_item hit keepL hx fun h1 hit1 sb => ?_))
      have keep1 : ∀ b o, h0.get? b = some o → h1.get? b = some o := fun b o hb => by
        have nb : b ≠ I := fun e => by rw [e, hI] at hb; cases hb
        rw [sb.2 b nb]; exact keep b o hb
      have hst1 : h1.get? S = some { cls := .type "list", data := .seq #[.ref t.1, .ref t.1] c } := by rw [sb.2 S hSI]; exact hst
      refine wpAny_bind (wpAny_pure ?_)
      have hjm : ts[j] ∈ ts := List.getElem_mem hlt
      obtain ⟨i1, v1, t1⟩ := htup _ hjm
      obtain ⟨i2, v2, t2⟩ := htup _ htm
      have tup1 : ∀ {a : Addr} {its : List Value}, IsTup h0 a its.toArray → IsTup h1 a its.toArray := fun ⟨o, ho, hc⟩ => ⟨o, keep1 _ _ ho, hc⟩
      have hsh1 : shape ts[j].2 = shape t.2 := (hsh _ hjm).trans (hsh _ htm).symm
      refine wpAny_bind (wpAny_tryCatch (wpAny_holding (wpAny_bind (lt_tupKeys (tup1 t1) (tup1 t2) (by simpa using v1) (by simpa using v2) hsh1 (Nat.lt_of_le_of_lt min_units (by omega)) (wpAny_bind (wpAny_holding (wpAny_truthy_bool (wpAny_bind (wpAny_letGo (wpAny_pure ?_))))))))))
      cases hb : lexB ts[j].2 t.2 with
      | true =>
        refine wpAny_bind (wpAny_updateSeq hst1 rfl ?_ (by show 2 ≤ _; rw [sizeLine_eq]; decide) (by show 2 ≤ _; rw [sizeLine_eq]; decide))
        refine wpAny_bind (wpAny_letGo (wpAny_pure ⟨rfl, ?_⟩))
        refine min_loop hh hu hlist hI hS hSI htup hsh s0 q (k - 1) (j + 1) _ ts[j] c (by omega) (by omega) (fun b o hb' => ?_) ?_ ?_ hjm (fun u hu' => ?_)
        · have nb : S ≠ b := fun e => by rw [← e, hS] at hb'; cases hb'
          exact Heap.get?_update_of_ne _ nb (keep1 b o hb')
        · obtain ⟨o, ho, r⟩ := hit1
          exact ⟨o, Heap.get?_update_of_ne _ hSI ho, r⟩
        · have := get?_update_seq (c := "list") hst1 (fun _ => #[.ref ts[j].1, .ref ts[j].1])
          simpa using this
        · rw [List.take_add_one, List.getElem?_eq_getElem hlt] at hu'
          rcases List.mem_append.mp hu' with hu' | hu'
          · have := hbest u hu'
            cases hz : lexB u.2 ts[j].2 with
            | false => rfl
            | true => rw [lexB_trans _ _ _ hz hb] at this; cases this
          · have : u = ts[j] := by simpa using hu'
            rw [this]; exact lexB_irrefl _
      | false =>
        refine wpAny_bind (wpAny_letGo (wpAny_pure ⟨rfl, ?_⟩))
        refine min_loop hh hu hlist hI hS hSI htup hsh s0 q (k - 1) (j + 1) h1 t c (by omega) (by omega) keep1 hit1 hst1 htm (fun u hu' => ?_)
        rw [List.take_add_one, List.getElem?_eq_getElem hlt] at hu'
        rcases List.mem_append.mp hu' with hu' | hu'
        · exact hbest u hu'
        · have : u = ts[j] := by simpa using hu'
          rw [this]; exact hb
    · have hx : ((ts.map fun t => Value.ref t.1).toArray)[j]? = none := by simp; omega
      refine wpAny_bind (wpAny_tryCatch (wpAny_pyNext_list_end hh hit keepL hx fun h1 eb => ?_))
      have hst1 : h1.get? S = some { cls := .type "list", data := .seq #[.ref t.1, .ref t.1] c } := eb S _ hSI hst
      refine wpAny_bind (wpAny_updateSeq hst1 rfl ?_ (by show 2 ≤ _; rw [sizeLine_eq]; decide) (by show 0 ≤ _; omega))
      refine wpAny_bind (wpAny_letGo (wpAny_pure ?_))
      refine q _ t (fun b o hb => ?_) htm (fun u hu' => hbest u (by rw [List.take_of_length_le (by omega)]; exact hu'))
      have nb : S ≠ b := fun e => by rw [← e, hS] at hb; cases hb
      have nI : b ≠ I := fun e => by rw [e, hI] at hb; cases hb
      exact Heap.get?_update_of_ne _ nb (eb b o nI (keep b o hb))
termination_by k => k
/-- the beginning of the walk -/
theorem min_first {A : Around} {R : Result → Shared → Prop} {l I S : Addr} {ts : TupL} {sh : List Bool} {h0 h : Heap} {c : Nat} {kw : List (Str × Value)} (hh : A.handled = none) (hu : A.units + 4 < cLine) (hlist : h0.IsList l (ts.map fun t => Value.ref t.1).toArray)
    (hI : h0.get? I = none) (hS : h0.get? S = none) (hSI : S ≠ I) (htup : ∀ t ∈ ts, ∃ its : List Value, Vals (t.2.map kV) its ∧ IsTup h0 t.1 its.toArray) (hsh : ∀ t ∈ ts, shape t.2 = sh) (s0 : Shared) (keep : ∀ b o, h0.get? b = some o → h.get? b = some o) (hit : h.IsListIter I l 0) (hst : h.get? S = some { cls := .type "list", data := .seq #[] c })
    (hne : ts ≠ [] ∨ ∃ n d kr, kw = (n, d) :: kr ∧ ∀ h' : Heap, (∀ b o, h0.get? b = some o → h'.get? b = some o) → R (.ok (.ret d)) { s0 with heap := h' })
    (q : ∀ (h' : Heap) (t : Addr × List Key), (∀ b o, h0.get? b = some o → h'.get? b = some o) → t ∈ ts → (∀ u ∈ ts, lexB u.2 t.2 = false) → R (.ok (.ret (.ref t.1))) { s0 with heap := h' }) :
    codeAny (model prog w) A (.builtin "min.loop" { pos := [.ref I, .none, .ref S], kw := kw }) R { s0 with heap := h } := by
  refine codeAny_builtin F.entry_min_loop ?_
  show wpAny _ _ (seqItems? (.ref S) >>= _) _ _ _
  refine wpAny_bind (wpAny_seqItems hst rfl ?_)
  have keepL : h.IsList l (ts.map fun t => Value.ref t.1).toArray := by
    obtain ⟨o, ho, r⟩ := hlist
    exact ⟨o, keep _ _ ho, r⟩
  cases ts with
  | nil =>
    obtain ⟨n, d, kr, rfl, q0⟩ := hne.resolve_left (by simp)
    refine wpAny_bind (wpAny_tryCatch (wpAny_pyNext_list_end hh hit keepL (by simp) fun h1 eb => ?_))
    show wpAny _ _ (rule _ >>= _) _ _ _
    refine wpAny_bind (wpAny_rule (wpAny_pure ?_))
    refine q0 _ fun b o hb => ?_
    have nI : b ≠ I := fun e => by rw [e, hI] at hb; cases hb
    exact eb b o nI (keep b o hb)
  | cons t r =>
    refine wpAny_bind (wpAny_tryCatch (wpAny_pyNext_list_item hit keepL (x := .ref t.1) (by simp) fun h1 hit1 sb => ?_))
    have keep1 : ∀ b o, h0.get? b = some o → h1.get? b = some o := fun b o hb => by
      have nb : b ≠ I := fun e => by rw [e, hI] at hb; cases hb
      rw [sb.2 b nb]; exact keep b o hb
    have hst1 : h1.get? S = some { cls := .type "list", data := .seq #[] c } := by rw [sb.2 S hSI]; exact hst
    refine wpAny_bind (wpAny_pure ?_)
    show wpAny _ _ (updateSeq S _ >>= _) _ _ _
    refine wpAny_bind (wpAny_updateSeq hst1 rfl ?_ (by show 0 ≤ _; omega) (by show 2 ≤ _; rw [sizeLine_eq]; decide))
    refine wpAny_pure ⟨rfl, ?_⟩
    refine min_loop hh hu hlist hI hS hSI htup hsh s0 q _ 1 _ t (c + 1) rfl (by simp) (fun b o hb' => ?_) ?_ ?_ (by simp) (fun u hu' => ?_)
    · have nb : S ≠ b := fun e => by rw [← e, hS] at hb'; cases hb'
      exact Heap.get?_update_of_ne _ nb (keep1 b o hb')
    · obtain ⟨o, ho, r⟩ := hit1
      exact ⟨o, Heap.get?_update_of_ne _ hSI ho, r⟩
    · have := get?_update_seq (c := "list") hst1 (fun _ => #[.ref t.1, .ref t.1])
      simpa using this
    · have : u = t := by simpa using hu'
      rw [this]; exact lexB_irrefl _
end
end L2

set_option Elab.async false
set_option linter.all false
set_option maxRecDepth 100000
/-! MY LAYER, 28: min(xs), min(xs, default=None) of tuples: the rules -/
namespace L2
open PySem PySem.Spec PyProof.Rows
section
variable {X : Cx}
def rMinT (K : PySem.W.Frag) : List V → Hp → VK → Prop := fun vs H Q => ∃ (p : Addr) (ts : TupL) (sh : List Bool), vs = [.ref p] ∧ SqL K H p (refs ts) ∧ AtT H ts ∧ ts ≠ [] ∧ (∀ t ∈ ts, shape t.2 = sh) ∧
  ∀ t : Addr × List Key, t ∈ ts → (∀ u ∈ ts, lexB u.2 t.2 = false) → Q (.ref t.1) H
theorem min_call {prog : Program} {w : World} {A : Around} {R : Result → Shared → Prop} {s : Shared} {l : Addr} {ts : TupL} {sh : List Bool} {kw : List (Str × Value)} {kw2 : List (Str × Value)} (hh : A.handled = none) (hu : A.units + 4 < cLine) (hlist : s.heap.IsList l (ts.map fun t => Value.ref t.1).toArray)
    (hkw : (kw = [] ∧ kw2 = []) ∨ ∃ d, kw = [(Str.ofString "default", d)] ∧ kw2 = [(Str.ofString "default", d)])
    (htup : ∀ t ∈ ts, ∃ its : List Value, Vals (t.2.map kV) its ∧ IsTup s.heap t.1 its.toArray) (hsh : ∀ t ∈ ts, shape t.2 = sh)
    (hne : ts ≠ [] ∨ ∃ n d kr, kw2 = (n, d) :: kr ∧ ∀ h' : Heap, (∀ b o, s.heap.get? b = some o → h'.get? b = some o) → R (.ok (.ret d)) { s with heap := h' })
    (q : ∀ (h' : Heap) (t : Addr × List Key), (∀ b o, s.heap.get? b = some o → h'.get? b = some o) → t ∈ ts → (∀ u ∈ ts, lexB u.2 t.2 = false) → R (.ok (.ret (.ref t.1))) { s with heap := h' }) :
    codeAny (model prog w) A (.call (.builtin "min") { pos := [.ref l], kw := kw }) R s := by
  refine codeAny_call_builtin_at rfl F.entry_min ?_
  have hc : checkBuiltinCall "min" { pos := [.ref l], kw := kw } = pure () := by
    rcases hkw with ⟨rfl, _⟩ | ⟨d, rfl, _⟩ <;> rfl
  rw [hc]
  refine wpAny_pure ?_
  have go : ∀ {A' : Around}, A'.handled = none → wpAny (model prog w) A' (pyIter (.ref l) >>= fun it => newList [] >>= fun b => again (.builtin "min.loop" { pos := [it, .none, b], kw := kw2 })) (fun fin s' => match fin with
      | Fin.done f => R (Except.ok f) s'
      | Fin.again c' => c'.quiet = true ∧ codeAny (model prog w) A c' R s') (fun e s' => R (Except.error e) s') s := fun {A'} hA' => by
    refine wpAny_bind (wpAny_pyIter_list hlist ?_)
    refine wpAny_bind (wpAny_newList ?_ (by show 0 ≤ _; omega))
    refine wpAny_pure ⟨rfl, ?_⟩
    have none_at : ∀ b, s.heap.objs.size ≤ b → s.heap.get? b = none := fun b hb => by
      cases e : s.heap.get? b with
      | none => rfl
      | some o => exact absurd (Heap.lt_size e) (Nat.not_lt.mpr hb)
    have hsz : (s.heap.push { cls := Value.type "list_iterator", data := Data.fields #[Value.ref l, Value.int 0 0] }).objs.size = s.heap.objs.size + 1 := size_push' _ _
    refine min_first (h0 := s.heap) (c := 0) hh hu hlist (none_at _ (Nat.le_refl _)) (none_at _ (by rw [hsz]; exact Nat.le_succ _)) (by rw [hsz]; exact Nat.succ_ne_self _) htup hsh s (fun b o h => Heap.get?_push_of_some _ (Heap.get?_push_of_some _ h)) ⟨_, Heap.get?_push_of_some _ (Heap.get?_push_size _ rfl), rfl, rfl⟩ (Heap.get?_push_size _ rfl) hne q
  rcases hkw with ⟨rfl, rfl⟩ | ⟨d, rfl, rfl⟩
  · exact go hh
  · exact go hh
theorem call_minT (hc : X.calm = true) (hu : X.A.units + 64 < cLine) : CallR X (.builtin "min") (rMinT X.K) := by
  intro pins s σ H vs us Q I r h
  obtain ⟨p, ts, sh, rfl, hq, hat, hne, hsh, q⟩ := h
  obtain ⟨u, rfl, rx⟩ := vals1 r
  cases rx
  obtain ⟨its, rv, pl, hz⟩ := I.list hq
  have ei := vals_refs rv
  subst ei
  refine wpAny_call (min_call (sh := sh) (I.ok.hd hc) (by omega) pl.isList (.inl ⟨rfl, rfl⟩) (fun t ht => ?_) hsh (.inl hne) fun h' t kp ht hmin => ?_)
  · obtain ⟨i, v, q, _⟩ := I.tuple (SqT.of (K := X.K) (hat t ht))
    exact ⟨i, v, q⟩
  · exact ⟨.ref t.1, H, I.kept (t' := s.toks) kp, rfl, q t ht hmin⟩
theorem minT (K : PySem.W.Frag) {k : Nat} (hr : Room k X.A) (hc : X.calm = true := by rfl) (h : X.K = K := by rfl) : CallR X (.builtin "min") (rMinT K) := by subst h; exact call_minT hc hr.units
/-- min(xs, default=None) -/
def tMinD (K : PySem.W.Frag) (te : TA) : TE := fun σ H Q => te σ H fun vs H1 => ∃ (p : Addr) (ts : TupL) (sh : List Bool), vs = [.ref p] ∧ SqL K H1 p (refs ts) ∧ AtT H1 ts ∧ (∀ t ∈ ts, shape t.2 = sh) ∧ (ts = [] → Q .non H1) ∧
  ∀ t : Addr × List Key, t ∈ ts → (∀ u ∈ ts, lexB u.2 t.2 = false) → Q (.ref t.1) H1
theorem pe_minD {k : Nat} {e ve : Expr} {t : TA} {p pos kpos : Pos} (K : PySem.W.Frag) (hr : Room k X.A) (hg : Gl X "min") (hm : X.mg "min" = none) (ha : PA X [e] t) (hv : PE X ve (tC .non)) (hK : X.K = K := by rfl) (hc : X.calm = true := by rfl)
    (hs : starEach [e] X.env = [(false, eval e X.env)] := by rfl) (hkw : keywordEach [⟨some "default", ve, kpos⟩] X.env = [(some (Str.ofString "default"), eval ve X.env)] := by rfl) : PE X (.Call (.Name "min" p) [e] [⟨some "default", ve, kpos⟩] pos) (tMinD K t) := by
  subst hK
  intro pins s σ H Q I h
  refine wpAny_Call_Name_kw (ld_blt I hg hm boot_min ?_)
  have ha' := ha pos pins s σ H _ I h
  rw [hs] at ha' ⊢
  rw [hkw]
  refine W.callWith_of (P := fun _ => True) rfl (fun _ _ => ⟨.machine, .inr (.inl rfl), fun A Q E s _ q => wpAny_pure q⟩) ?_
  show wpAny _ _ (spliced (backTo pos [(false, eval e X.env)]) >>= _) _ _ _
  refine wpAny_bind (thn ha' fun us s1 ⟨vs, H1, I1, r1, q1⟩ => ?_)
  refine wpAny_bind (wpAny_pure ?_)
  refine wpAny_holding ?_
  show wpAny _ _ (evalAll [do let v ← eval ve X.env; standAt pos; pure v] >>= _) _ _ _
  refine wpAny_bind ?_
  unfold evalAll
  refine wpAny_bind (wpAny_bind (thn (hv pins s1 σ H1 (fun v H2 => v = .non ∧ H2 = H1) I1 ⟨rfl, rfl⟩) fun u s2 ⟨v, H2, I2, r2, ev, eH⟩ => wpAny_bind (wpAny_standAt (wpAny_pure ?_))))
  subst ev eH
  cases r2
  refine wpAny_bind (wpAny_holding (show wpAny _ _ (pure []) _ _ _ from wpAny_pure (wpAny_pure ?_)))
  show wpAny _ _ (pure us >>= _) _ _ _
  refine wpAny_bind (wpAny_pure (wpAny_pure ⟨trivial, ?_⟩))
  obtain ⟨p, ts, sh, rfl, hq, hat, hsh, q0, q⟩ := q1
  obtain ⟨u, rfl, rx⟩ := vals1 r1
  cases rx
  obtain ⟨its, rv, pl, hz⟩ := I2.list hq
  have ei := vals_refs rv
  subst ei
  refine wpAny_call (min_call (sh := sh) (kw := [(Str.ofString "default", .none)]) (I2.ok.hd hc) (by have := hr.units; omega) pl.isList (.inr ⟨.none, rfl, rfl⟩) (fun t ht => ?_) hsh ?_ fun h' t kp ht hmin => ?_)
  · obtain ⟨i, v, q, _⟩ := I2.tuple (SqT.of (K := X.K) (hat t ht))
    exact ⟨i, v, q⟩
  · by_cases hne : ts = []
    · exact .inr ⟨_, _, _, rfl, fun h' kp => ⟨.non, _, I2.kept (t' := s2.toks) kp, rfl, q0 hne⟩⟩
    · exact .inl hne
  · exact ⟨.ref t.1, _, I2.kept (t' := s2.toks) kp, rfl, q t ht hmin⟩
end
end L2

set_option Elab.async false
set_option linter.all false
set_option maxRecDepth 100000
/-! MY LAYER, 29: xs.remove(x) of ints and of tuples of ints and texts -/
namespace L2
open PySem PySem.Spec PyProof.Rows
/-- how the things of a list stand to one, at a state -/
def EqS (s : Shared) (items : List Value) (v : Value) (e : Nat → Bool) : Prop := ∀ (prog : Program) (w : World) (A : Around) (E : Value → Shared → Prop) (Q : Bool → Shared → Prop) (m : Nat) (x : Value), A.units + 2 < cLine → items[m]? = some x → Q (e m) s → wpAny (model prog w) A (eqBool x v) Q E s
section
variable {X : Cx}
def rRemI : V → List V → Hp → VK → Prop := fun x vs H Q => ∃ (l : Addr) (ns : List Int) (n : Int), x = .ref l ∧ vs = [.int n] ∧ H l = some (.lst (ns.map V.int)) ∧ n ∈ ns ∧ ns.length ≤ 1000 ∧ Q .non (upd H l (.lst ((ns.erase n).map V.int)))
def rRemT : V → List V → Hp → VK → Prop := fun x vs H Q => ∃ (l : Addr) (ts : TupL) (t : Addr × List Key), x = .ref l ∧ vs = [.ref t.1] ∧ H l = some (.lst (refs ts)) ∧ AtT H ts ∧ t ∈ ts ∧ ts.length ≤ 1000 ∧ ∀ (i : Nat) (hi : i < ts.length), ts[i].2 = t.2 → Q .non (upd H l (.lst (refs (ts.eraseIdx i))))
end
end L2

set_option Elab.async false
set_option linter.all false
set_option maxRecDepth 100000
/-! MY LAYER, 30: t >= u of tuples of ints and texts -/
namespace L2
open PySem PySem.Spec PyProof.Rows
section
open PySem.SeqAt
open PySem.AutoSeq1 (wpAny_loadPart')
open PySem.MeetsSeq PySem.MeetsSeq2 PySem.MeetsSeq3
end
section
variable {prog : Program} {w : World} {A : Around} {E : Value → Shared → Prop} {s : Shared}
end
section
variable {X : Cx}
def rGeK (K : PySem.W.Frag) : R2 := fun x y H Q => ∃ (a b : Addr) (ks ms : List Key), x = .ref a ∧ y = .ref b ∧ SqT K H a (ks.map kV) ∧ SqT K H b (ms.map kV) ∧ shape ks = shape ms ∧ Q (.bl (!lexB ks ms)) H
end
end L2

set_option Elab.async false
set_option linter.all false
set_option maxRecDepth 100000
/-! MY LAYER, 31: max of a list of ints, list.count of ints -/
namespace L2
open PySem PySem.Spec PyProof.Rows
def rMaxL (K : PySem.W.Frag) : List V → Hp → VK → Prop := fun vs H Q => ∃ (p : Addr) (ns : List Int), vs = [.ref p] ∧ SqL K H p (ns.map V.int) ∧ 0 < ns.length ∧ ∀ M, M ∈ ns → (∀ a ∈ ns, a ≤ M) → Q (.int M) H
def isNum (n : Int) : Value → Bool
  | .int a _ => a == n
  | _ => false
section
variable {X : Cx}
def rCountI : V → List V → Hp → VK → Prop := fun x vs H Q => ∃ (l : Addr) (ns : List Int) (n : Int), x = .ref l ∧ vs = [.int n] ∧ H l = some (.lst (ns.map V.int)) ∧ Q (.int ((ns.count n : Nat) : Int)) H
end
section
variable {X : Cx} {T name id : String} {r : V → List V → Hp → VK → Prop} {o e : Expr} {es : List Expr} {to : TE} {t : TA} {apos cpos : Pos}
end
end L2

set_option Elab.async false
set_option linter.all false
set_option maxRecDepth 100000
/-! MY LAYER, 32: xs.remove(x) and x in xs of any data -/
namespace L2
open PySem PySem.Spec PyProof.Rows
/-- how the things of a list stand to one, at a state -/
def EqS6 (s : Shared) (items : List Value) (v : Value) (e : Nat → Bool) : Prop := ∀ (prog : Program) (w : World) (A : Around) (E : Value → Shared → Prop) (Q : Bool → Shared → Prop) (m : Nat) (x : Value), A.units + 60 < cLine → items[m]? = some x → Q (e m) s → wpAny (model prog w) A (eqBool x v) Q E s
section
variable {X : Cx}
def rRemD (K : PySem.W.Frag) : V → List V → Hp → VK → Prop := fun x vs H Q => ∃ (l : Addr) (xs : List V) (ds : List PyData) (y : V) (d : PyData) (i : Nat), x = .ref l ∧ vs = [y] ∧ H l = some (.lst xs) ∧ DVs K H xs ds ∧ DV K H y d ∧ (∀ e ∈ ds, e.canLay0 = true) ∧ d.canLay0 = true ∧ d.depth ≤ 56 ∧ xs.length ≤ 1000 ∧
  i < ds.length ∧ (∀ e, ds[i]? = some e → PyData.eqv e d = true) ∧ (∀ m e, m < i → ds[m]? = some e → PyData.eqv e d = false) ∧ Q .non (upd H l (.lst (xs.eraseIdx i)))
def rInD (K : PySem.W.Frag) : R2 := fun x y H Q => ∃ (l : Addr) (xs : List V) (ds : List PyData) (d : PyData), y = .ref l ∧ SqL K H l xs ∧ DVs K H xs ds ∧ DV K H x d ∧ PyData.canLayAll0 ds = true ∧ SeqAt.shaped d = true ∧ d.depth ≤ 60 ∧ Q (.bl (ds.any fun e => PyData.eqv e d)) H
def rSumC (K : PySem.W.Frag) : List V → Hp → VK → Prop := fun vs H Q => ∃ (p : Addr) (ns : List Int), vs = [.ref p] ∧ SqL K H p (ns.map V.int) ∧ ns.length ≤ 1000 ∧ (∀ n ∈ ns, 0 ≤ n ∧ n ≤ 10000000000000) ∧ Q (.int ns.sum) H
end
end L2

set_option Elab.async false
set_option linter.all false
set_option maxRecDepth 100000
/-! MY LAYER, 33: d[k], d[k] = v (a new key) of dicts by tuples -/
namespace L2
open PySem PySem.Spec PyProof.Rows
section
variable {X : Cx}
def rIxD : R2 := fun x y H Q => ∃ d kvs b ks v, x = .ref d ∧ y = .ref b ∧ H d = some (.dT kvs) ∧ H b = some (.tup (ks.map kV)) ∧ lookK kvs ks = some v ∧ Q v H
def rSetDT : TSet := fun o i v H Q => ∃ d kvs b ks, o = .ref d ∧ i = .ref b ∧ H d = some (.dT kvs) ∧ H b = some (.tup (ks.map kV)) ∧ lookK kvs ks = none ∧ kvs.length < sizeLine ∧ Q (upd H d (.dT (kvs ++ [(ks, v)])))
end
end L2

set_option Elab.async false
set_option linter.all false
set_option maxRecDepth 100000
/-! MY LAYER, 34: a walk over zip(a, b) whose target is a name -/
namespace L2
open PySem PySem.Spec PyProof.Rows
abbrev IsZipG (h : Heap) (z TI TO : Addr) (f0 : Value) (fl : Bool) : Prop :=
  h.get? z = some { cls := .type "zip", dict := none, data := .fields #[f0, .bool fl, .bool false, .ref TI, .ref TO], slots := #[] }
section
variable {prog : Program} {w : World} {A : Around} {E : Value → Shared → Prop} {s : Shared}
end
end L2

set_option Elab.async false
set_option linter.all false
set_option maxRecDepth 100000
/-! MY LAYER, 35: comprehensions of two clauses -/
namespace L2
open PySem PySem.Spec PyProof.Rows
section
variable {prog : Program} {w : World} {A : Around} {R : Result → Shared → Prop} {s : Shared}
end
/-- the inner clause's turns -/
def InnerGo (J : It) (D : Addr) (ys : List V) (σ : St) (H : Hp) (g : TG) (te : TE) (N : List V → St → Hp → Prop) : Prop :=
  ∃ W : Nat → Nat → List V → St → Hp → Prop, (∃ m, W 0 m ys σ H) ∧
    ∀ i m ys σ2 H2, W i m ys σ2 H2 → (J.stop i H2 ∧ N ys σ2 H2) ∨
      (J.go i H2 ∧ ∃ N2 : List V → St → Hp → Prop, (∀ ys' σ' H', N2 ys' σ' H' → ∃ m', m' < m ∧ W (i + 1) m' ys' σ' H') ∧ ∀ x H3, J.yld i H2 x H3 → g x σ2 H3 fun σ4 H4 =>
        te σ4 H4 fun y H6 => H6 D = some (.lst ys) ∧ ys.length < sizeLine ∧ N2 (ys ++ [y]) σ4 (upd H6 D (.lst (ys ++ [y]))))
def Comp2Go (J : It) (D : Addr) (k : Nat) (σ : St) (H1 : Hp) (g : TG) (wi2 : TI) (g2 : TG) (te : TE) (Q : VK) : Prop :=
  ∃ W : Nat → Nat → List V → St → Hp → Prop, (∃ m, W 0 m [] (σ ++ List.replicate k none) (upd H1 D (.lst []))) ∧
    ∀ i m ys σ2 H2, W i m ys σ2 H2 → (J.stop i H2 ∧ Q (.ref D) H2) ∨
      (J.go i H2 ∧ ∃ N : List V → St → Hp → Prop, (∀ ys' σ' H', N ys' σ' H' → ∃ m', m' < m ∧ W (i + 1) m' ys' σ' H') ∧ ∀ x H3, J.yld i H2 x H3 → g x σ2 H3 fun σ4 H4 => wi2 σ4 H4 fun J2 H5 => InnerGo J2 D ys σ4 H5 g2 te N)
def tComp2 (n : Nat) (wi : TI) (g : TG) (wi2 : TI) (g2 : TG) (te : TE) : TE := fun σ H Q => wi σ H fun J H1 => ∀ D, H1 D = none → Comp2Go J D n σ H1 g wi2 g2 te Q
section
variable {X : Cx} {N N' : List Str} {o c : Scope}
end
end L2

set_option Elab.async false
set_option linter.all false
set_option maxRecDepth 100000
/-! MY LAYER, 36: walks by range in comprehensions of two clauses; t + u of tuples with K written out -/
namespace L2
open PySem PySem.Spec PyProof.Rows
end L2

set_option Elab.async false
set_option linter.all false
/-! MY LAYER, 37: mathematics: least costs by the depths of rows (how many ways, what a tree of the least ones costs) -/
namespace Hf
open L2
abbrev PW := List (Int × Nat)
def val (P : PW) : Int := (P.map fun p => p.1 * (p.2 : Int)).sum
def ws (P : PW) : List Int := P.map (·.1)
def ds (P : PW) : List Nat := P.map (·.2)
def zs (z : Nat) : List Int := List.replicate z 0
def kr (w E : Nat) (D : List Nat) : Nat := (D.map fun d => w ^ (E - d)).sum
def Kr (w : Nat) (D : List Nat) : Prop := ∃ E, (∀ d ∈ D, d ≤ E) ∧ kr w E D = w ^ E
/-- the least ones put together again and again: what it costs -/
inductive Hu (w : Nat) : List Int → Nat → Int → Prop
  | stop {e : Int} {m : Nat} : Hu w [e] m 0
  | step {E L : List Int} {m : Nat} {C : Int} : 1 < L.length → E.Perm L → L.Pairwise (· ≤ ·) → Hu w (L.drop m ++ [(L.take m).sum]) w C → Hu w E m (C + (L.take m).sum)
def Fit (w n m : Nat) : Prop := n = 1 ∨ ∃ t, n = m + t * (w - 1)
/-- first times and ways that fit -/
structure Fits (w n m : Nat) : Prop where
  w2 : 2 ≤ w
  m2 : 2 ≤ m
  mw : m ≤ w
  ok : Fit w n m
end Hf

set_option Elab.async false
set_option linter.all false
set_option maxRecDepth 100000
/-! MY LAYER, 38: {k: v for ..} of dicts by tuples, each key once -/
namespace L2
open PySem PySem.Spec PyProof.Rows
section
variable {prog : Program} {w : World} {A : Around} {R : Result → Shared → Prop} {s : Shared}
theorem compLoop_anyD {kx vx target iter : Expr} {ifs : List Expr} {scope : Scope} {pos : Pos} {it : Value} {D : Addr} {env : Env} {E : Value → Shared → Prop} (I : Nat → Shared → Prop)
    (hE : ∀ e s', E e s' → False)
    (turn : ∀ n s, I n s → wpAny (model prog w) A (pyNext it) (fun r s₁ => match r with
      | none => R (.ok .next) s₁
      | some v => wpAny (model prog w) A (letOwnedTupleGo target it v) (fun _ s₀ => wpAny (model prog w) A (assign target env v) (fun _ s₂ =>
          wpAny (model prog w) A (testsOf ifs env) (fun ok s₃ =>
            if ok = true then wpAny (model prog w) A (eval kx env) (fun kv s₄ => wpAny (model prog w) A (eval vx env) (fun vv s₅ =>
              wpAny (model prog w) A (dictSet D kv vv) (fun _ s₆ => ∃ m, m < n ∧ I m s₆) E s₅) E s₄) E s₃
            else ∃ m, m < n ∧ I m s₃) E s₂) E s₀) E s₁) E s)
    (n : Nat) (h : I n s) : codeAny (model prog w) A (.compLoop (.DictComp kx vx [⟨target, iter, ifs, 0⟩] scope pos) 0 it (.ref D) env) R s := by
  have go : ∀ {α : Type} {t : Sem α} {Q : α → Shared → Prop} {s : Shared}, wpAny (model prog w) A t Q E s → wpAny (model prog w) A t Q (notedBy (model prog w) A env fun e s' => R (.error e) s') s :=
    fun {α t Q s} q => wpAny_mono q (fun _ _ z => z) fun e s' z => (hE e s' z).elim
  refine codeAny_loop rfl I (fun n s hI => ?_) n h
  show wpAny _ A ((compTurn (.DictComp kx vx [⟨target, iter, ifs, 0⟩] scope pos) 0 it (.ref D) env).onRaise (fun x => do noteFrame x env; theTreesLotGoes x)) _ _ s
  refine wpAny_noted ?_
  rw [compTurn_dict]
  refine wpAny_bind (wpAny_standAt (wpAny_bind (thn (go (turn n s hI)) fun r s₁ h₁ => ?_)))
  cases r with
  | none => exact wpAny_pure h₁
  | some v =>
    refine wpAny_bind (thn (go h₁) fun _ s₀ h₀ => wpAny_bind (thn (go h₀) fun _ s₂ h₂ => wpAny_bind (thn (go h₂) fun ok s₃ h₃ => ?_)))
    cases ok with
    | false => exact wpAny_pure ⟨rfl, h₃⟩
    | true =>
      exact wpAny_bind (wpAny_bind (thn (go h₃) fun kv s₄ h₄ => wpAny_bind (wpAny_holding (thn (go h₄) fun vv s₅ h₅ => wpAny_bind (wpAny_standAt (wpAny_holding (thn (go h₅) fun _ s₆ h₆ => wpAny_pure ⟨rfl, h₆⟩)))))))
end
/-- what the turns of {k: v for ..} ask -/
def DictGo (J : It) (D : Addr) (k : Nat) (σ : St) (H1 : Hp) (g : TG) (tc : TT) (tk te : TE) (Q : VK) : Prop :=
  ∃ W : Nat → Nat → List (List Key × V) → St → Hp → Prop, (∃ m, W 0 m [] (σ ++ List.replicate k none) (upd H1 D (.dT []))) ∧
    ∀ i m ys σ2 H2, W i m ys σ2 H2 → (J.stop i H2 ∧ Q (.ref D) H2) ∨
      (J.go i H2 ∧ ∃ N : List (List Key × V) → St → Hp → Prop, (∀ ys' σ' H', N ys' σ' H' → ∃ m', m' < m ∧ W (i + 1) m' ys' σ' H') ∧ ∀ x H3, J.yld i H2 x H3 → g x σ2 H3 fun σ4 H4 => tc σ4 H4 fun b H5 =>
        if b = true then tk σ4 H5 fun kv H6 => te σ4 H6 fun y H7 => ∃ (b : Addr) (ks : List Key), kv = .ref b ∧ H7 D = some (.dT ys) ∧ H7 b = some (.tup (ks.map kV)) ∧ lookK ys ks = none ∧ ys.length < sizeLine ∧ N (ys ++ [(ks, y)]) σ4 (upd H7 D (.dT (ys ++ [(ks, y)]))) else N ys σ4 H5)
def tDComp (n : Nat) (wi : TI) (g : TG) (tc : TT) (tk te : TE) : TE := fun σ H Q => wi σ H fun J H1 => ∀ D, H1 D = none → DictGo J D n σ H1 g tc tk te Q
section
variable {X : Cx} {N N' : List Str} {o c : Scope}
end
end L2

set_option Elab.async false
set_option linter.all false
set_option maxRecDepth 100000
namespace L2
open PySem PySem.Spec PyProof.Rows
/-! ### lists of pairs as tables -/
section
variable {κ : Type} [DecidableEq κ]
def valV (kvs : List (κ × V)) (k : κ) : Option V := (kvs.find? fun kv => decide (kv.1 = k)).map (·.2)
/-- in its place, or at the end -/
def putK (kvs : List (κ × V)) (k : κ) (v : V) : List (κ × V) :=
  if (kvs.any fun kv => decide (kv.1 = k)) = true then kvs.map (fun kv => if kv.1 = k then (kv.1, v) else kv) else kvs ++ [(k, v)]
def dropK (kvs : List (κ × V)) (k : κ) : List (κ × V) := kvs.filter fun kv => decide (kv.1 ≠ k)

theorem valV_nil {k : κ} : valV ([] : List (κ × V)) k = none := rfl
theorem valV_pos {p : κ × V} {r : List (κ × V)} {k : κ} (e : p.1 = k) : valV (p :: r) k = some p.2 := by simp [valV, List.find?_cons, e]
theorem valV_neg {p : κ × V} {r : List (κ × V)} {k : κ} (e : ¬ p.1 = k) : valV (p :: r) k = valV r k := by simp [valV, List.find?_cons, e]
theorem valV_any (k : κ) : ∀ kvs : List (κ × V), (kvs.any fun kv => decide (kv.1 = k)) = (valV kvs k).isSome
  | [] => rfl
  | p :: r => by
    rw [List.any_cons]
    by_cases e : p.1 = k
    · simp only [valV_pos e, decide_eq_true e, Bool.true_or, Option.isSome_some]
    · rw [valV_neg e, decide_eq_false e, Bool.false_or]; exact valV_any k r
theorem length_putK (kvs : List (κ × V)) (k : κ) (v : V) : (putK kvs k v).length ≤ kvs.length + 1 := by
  unfold putK
  split
  · rw [List.length_map]; omega
  · rw [List.length_append, List.length_cons, List.length_nil]; omega
theorem putK_new {kvs : List (κ × V)} {k : κ} (v : V) (h : valV kvs k = none) : putK kvs k v = kvs ++ [(k, v)] := by
  unfold putK
  rw [valV_any, h]
  exact if_neg (by decide)

theorem RelO.isSome_eq {o : Option V} {u : Option Value} (r : RelO o u) : o.isSome = u.isSome := by
  cases o with
  | none => cases u with
    | none => rfl
    | some _ => exact (show False from r).elim
  | some _ => cases u with
    | none => exact (show False from r).elim
    | some _ => rfl
/-- raw tables of the same keys -/
theorem KV.val {kvs : List (κ × V)} {vs : List (κ × Value)} (r : KV kvs vs) (k : κ) : RelO (valV kvs k) (valueAt vs k) := by
  unfold KV at r
  induction r with
  | nil => exact True.intro
  | @cons p q ps qs h t ih =>
    obtain ⟨h1, h2⟩ := h
    by_cases e : p.1 = k
    · have e' : q.1 = k := h1.symm.trans e
      have b : valueAt (q :: qs) k = some q.2 := by simp [valueAt, List.find?_cons, e']
      rw [valV_pos e, b]; exact h2
    · have e' : ¬ q.1 = k := fun z => e (h1.trans z)
      have b : valueAt (q :: qs) k = valueAt qs k := by simp [valueAt, List.find?_cons, e']
      rw [valV_neg e, b]; exact ih
theorem KV.any {kvs : List (κ × V)} {vs : List (κ × Value)} (r : KV kvs vs) (k : κ) : (kvs.any fun kv => decide (kv.1 = k)) = vs.any fun kv => decide (kv.1 = k) := by
  unfold KV at r
  induction r with
  | nil => rfl
  | cons h t ih => rw [List.any_cons, List.any_cons, ih, h.1]
theorem KV.repl {kvs : List (κ × V)} {vs : List (κ × Value)} (r : KV kvs vs) (k : κ) {y : V} {u : Value} (ry : RelV y u) :
    KV (kvs.map fun kv => if kv.1 = k then (kv.1, y) else kv) (vs.map fun kv => if kv.1 = k then (kv.1, u) else kv) := by
  unfold KV at r ⊢
  induction r with
  | nil => exact .nil
  | @cons p q ps qs h t ih =>
    rw [List.map_cons, List.map_cons]
    refine .cons ?_ ih
    obtain ⟨h1, h2⟩ := h
    by_cases e : p.1 = k
    · rw [if_pos e, if_pos (h1.symm.trans e)]; exact ⟨h1, ry⟩
    · rw [if_neg e, if_neg (fun z => e (h1.trans z))]; exact ⟨h1, h2⟩
theorem KV.put {kvs : List (κ × V)} {vs : List (κ × Value)} (r : KV kvs vs) (k : κ) {y : V} {u : Value} (ry : RelV y u) : KV (putK kvs k y) (stored vs k u) := by
  unfold putK stored
  rw [r.any k]
  by_cases e : (vs.any fun kv => decide (kv.1 = k)) = true
  · rw [if_pos e, if_pos e]; exact r.repl k ry
  · rw [if_neg e, if_neg e]; exact Paired.snoc r ⟨rfl, ry⟩
theorem KV.length {kvs : List (κ × V)} {vs : List (κ × Value)} (r : KV kvs vs) : kvs.length = vs.length := Paired.length r
end


/-! ### a tracked dict, its keys ints and texts or tuples of these -/
theorem kV_is {P : Program} {w : World} {k : Key} {u : Value} (r : RelV (kV k) u) : (mixKind P w).is k u = true := by
  cases k with
  | inl i => obtain ⟨t, e⟩ := (show ∃ t, u = Value.int i t from r); subst e; exact mixKind_int P w i t
  | inr x => obtain ⟨t, e⟩ := (show ∃ t, u = Value.str x t from r); subst e; exact mixKind_str P w x t
theorem items_are {P : Program} {w : World} : ∀ {ks : List Key} {us : List Value}, Vals (ks.map kV) us → ItemsAre (mixKind P w) ks us
  | [], _, r => by rw [List.map_nil] at r; cases r; exact .nil
  | k :: ks, _, r => by
    rw [List.map_cons] at r
    cases r with
    | cons h t => exact .cons (kV_is h) (items_are t)

/-- raw entries of a dict with tuple keys -/
abbrev KT (H : Hp) : List (List Key × V) → List (List Key × Addr × Value) → Prop := Paired fun p q => p.1 = q.1 ∧ H q.2.1 = some (.tup (p.1.map kV)) ∧ RelV p.2 q.2.2
theorem KT.val {H : Hp} {kvs : List (List Key × V)} {xs : List (List Key × Addr × Value)} (r : KT H kvs xs) (k : List Key) : RelO (valV kvs k) ((atKey xs k).map (·.2)) := by
  induction r with
  | nil => exact True.intro
  | @cons p q ps qs h t ih =>
    obtain ⟨h1, _, h2⟩ := h
    by_cases e : p.1 = k
    · have e' : q.1 = k := h1.symm.trans e
      have b : atKey (q :: qs) k = some q.2 := by simp [atKey, List.find?_cons, e']
      rw [valV_pos e, b]; exact h2
    · have e' : ¬ q.1 = k := fun z => e (h1.trans z)
      have b : atKey (q :: qs) k = atKey qs k := by simp [atKey, List.find?_cons, e']
      rw [valV_neg e, b]; exact ih
theorem KT.repl {H : Hp} {kvs : List (List Key × V)} {xs : List (List Key × Addr × Value)} (r : KT H kvs xs) (k : List Key) {y : V} {u : Value} (ry : RelV y u) :
    KT H (kvs.map fun kv => if kv.1 = k then (kv.1, y) else kv) (xs.map (putAt k u)) := by
  induction r with
  | nil => exact .nil
  | @cons p q ps qs h t ih =>
    rw [List.map_cons, List.map_cons]
    refine .cons ?_ ih
    obtain ⟨h1, h2, h3⟩ := h
    unfold putAt
    by_cases e : p.1 = k
    · rw [if_pos e, if_pos (h1.symm.trans e)]; exact ⟨h1, h2, ry⟩
    · rw [if_neg e, if_neg (fun z => e (h1.trans z))]; exact ⟨h1, h2, h3⟩
theorem KT.put {H : Hp} {kvs : List (List Key × V)} {xs : List (List Key × Addr × Value)} (r : KT H kvs xs) (k : List Key) {b : Addr} {y : V} {u : Value} (hb : H b = some (.tup (k.map kV))) (ry : RelV y u) :
    KT H (putK kvs k y) (storedH xs k b u) := by
  have e : (kvs.any fun kv => decide (kv.1 = k)) = (atKey xs k).isSome := by
    rw [valV_any, (r.val k).isSome_eq, Option.isSome_map]
  unfold putK storedH
  rw [e]
  by_cases q : (atKey xs k).isSome = true
  · rw [if_pos q, if_pos q]; exact r.repl k ry
  · rw [if_neg q, if_neg q]; exact Paired.snoc r ⟨rfl, hb, ry⟩
theorem KT.keeps {H H' : Hp} {kvs : List (List Key × V)} {xs : List (List Key × Addr × Value)} (r : KT H kvs xs) (ht : ∀ b ys, H b = some (.tup ys) → H' b = some (.tup ys)) : KT H' kvs xs :=
  Paired.mapP r fun _ _ z => ⟨z.1, ht _ _ z.2.1, z.2.2⟩

section
variable {P : Program} {w : World} {H : Hp} {h : Heap} {a : Addr}
theorem rd_of {u : HO} (ok : HOk P w H h) (e : Rd H a u) : ObjOk P w H h a u := e.ok ok
theorem dk_rd {kvs : List (Key × V)} (ok : HOk P w H h) (e : Rd H a (.dK kvs)) : kvs.length ≤ sizeLine ∧ (a == sysModules) = false ∧ ∃ vs, KV kvs vs ∧ h.DictOf (mixKind P w) a vs :=
  show ObjOk P w H h a (.dK kvs) from rd_of ok e
theorem dk_of {kvs : List (Key × V)} (ok : HOk P w H h) (e : H a = some (.dK kvs)) : kvs.length ≤ sizeLine ∧ (a == sysModules) = false ∧ ∃ vs, KV kvs vs ∧ h.DictOf (mixKind P w) a vs := dk_rd ok (.inl e)
/-- a tracked tuple of ints and texts is a key -/
theorem key_of {ks : List Key} (ok : HOk P w H h) (e : H a = some (.tup (ks.map kV))) : (tupleKind (mixKind P w)).is h ks a := by
  obtain ⟨_, its, r, o, h1, h2, n, h3⟩ := (show ObjOk P w H h a (.tup (ks.map kV)) from ok a _ e)
  exact ⟨o, its.toArray, n, h1, h2, h3, by simpa using items_are r⟩
theorem dt_rd {kvs : List (List Key × V)} (ok : HOk P w H h) (e : Rd H a (.dT kvs)) : kvs.length ≤ sizeLine ∧ (a == sysModules) = false ∧
    ∃ xs, KT H kvs xs ∧ h.DictOfH (tupleKind (mixKind P w)) a xs := by
  obtain ⟨z, y, xs, r, o, es, ep, h1, h2, h3, h4, h5⟩ := (show ObjOk P w H h a (.dT kvs) from rd_of ok e)
  refine ⟨z, y, xs, r, o, es, ep, h1, h2, h3, h4, fun x hx => ?_, h5⟩
  have all : ∀ {l : List (List Key × V)} {m : List (List Key × Addr × Value)}, KT H l m → ∀ x ∈ m, (tupleKind (mixKind P w)).is h x.1 x.2.1 := by
    intro l m q
    induction q with
    | nil => intro x hx; exact nomatch hx
    | @cons p q ps qs hq t ih =>
      intro x hx
      rcases List.mem_cons.mp hx with e | hx
      · subst e
        exact key_of ok (by rw [← hq.1]; exact hq.2.1)
      · exact ih x hx
  exact all r x hx
theorem dt_of {kvs : List (List Key × V)} (ok : HOk P w H h) (e : H a = some (.dT kvs)) : kvs.length ≤ sizeLine ∧ (a == sysModules) = false ∧
    ∃ xs, KT H kvs xs ∧ h.DictOfH (tupleKind (mixKind P w)) a xs := dt_rd ok (.inl e)
end

/-- what the dict at a holds at the key y -/
def DGet (H : Hp) (a : Addr) (y : V) (r : Option V) : Prop :=
  (∃ kvs k, Rd H a (.dK kvs) ∧ y = kV k ∧ r = valV kvs k) ∨ ∃ kvs k b, Rd H a (.dT kvs) ∧ y = .ref b ∧ H b = some (.tup (k.map kV)) ∧ r = valV kvs k
/-- the heap behind a[y] = v -/
def DPut (H : Hp) (a : Addr) (y v : V) (H' : Hp) : Prop :=
  (∃ kvs k, H a = some (.dK kvs) ∧ y = kV k ∧ kvs.length < sizeLine ∧ H' = upd H a (.dK (putK kvs k v))) ∨
  ∃ kvs k b, H a = some (.dT kvs) ∧ y = .ref b ∧ H b = some (.tup (k.map kV)) ∧ kvs.length < sizeLine ∧ H' = upd H a (.dT (putK kvs k v))
theorem DGet.k {H : Hp} {a : Addr} {kvs : List (Key × V)} {k : Key} (e : H a = some (.dK kvs)) : DGet H a (kV k) (valV kvs k) := .inl ⟨kvs, k, .inl e, rfl, rfl⟩
theorem DPut.k {H : Hp} {a : Addr} {kvs : List (Key × V)} {k : Key} {v : V} (e : H a = some (.dK kvs)) (hl : kvs.length < sizeLine) : DPut H a (kV k) v (upd H a (.dK (putK kvs k v))) := .inl ⟨kvs, k, e, rfl, hl, rfl⟩
section
variable {X : Cx} {pins : List (Addr × Obj)} {σ : St} {H : Hp} {s : Shared} {a : Addr} {y v : V} {u r : Value} {o : Option V} {A : Around} {E : Value → Shared → Prop}

theorem Inv.big (I : Inv X pins σ H s) : sysModules < s.heap.objs.size := by
  have h : mainGlobals < s.heap.objs.size := (I.mod.glob.keeps I.bk).lt
  exact Nat.lt_trans (by decide) h

/-- d[y], there -/
theorem d_getItem {Q : Value → Shared → Prop} (hu : A.units + 1 < cLine) (I : Inv X pins σ H s) (g : DGet H a y (some v)) (ry : RelV y u) (h : ∀ w' s', Inv X pins σ H s' → RelV v w' → Q w' s') :
    wpAny (model X.prog X.w) A (getItem (.ref a) u) Q E s := by
  rcases g with ⟨kvs, k, e, ey, l⟩ | ⟨kvs, k, b, e, ey, eb, l⟩
  · subst ey
    obtain ⟨z, hd, vs, rel, dd⟩ := dk_rd I.hok e
    obtain ⟨w', hw, rw'⟩ := RelO.some_of (v := v) (o := valueAt vs k) (by rw [l]; exact rel.val k)
    exact wpAny_getItem_of (kV_is ry) dd.mapOf hw (h w' _ (I.tok _) rw')
  · subst ey
    cases (show u = Value.ref b from ry)
    obtain ⟨z, hd, xs, rel, dd⟩ := dt_rd I.hok e
    obtain ⟨w', hw, rw'⟩ := RelO.some_of (v := v) (o := (atKey xs k).map (·.2)) (by rw [l]; exact rel.val k)
    obtain ⟨p, hp, hp2⟩ := Option.map_eq_some_iff.mp hw
    refine wpAny_getItem_heap (tupleKind_room_in1 hu) (key_of I.hok eb) dd hp ?_
    rw [hp2]
    exact h w' _ (I.tok _) rw'
/-- y in d -/
theorem d_in {Q : Value → Shared → Prop} (hu : A.units + 1 < cLine) (I : Inv X pins σ H s) (g : DGet H a y o) (ry : RelV y u) (h : ∀ s', Inv X pins σ H s' → Q (.bool o.isSome) s') :
    wpAny (model X.prog X.w) A (compareOp .In u (.ref a)) Q E s := by
  rcases g with ⟨kvs, k, e, ey, l⟩ | ⟨kvs, k, b, e, ey, eb, l⟩
  · subst ey
    obtain ⟨z, hd, vs, rel, dd⟩ := dk_rd I.hok e
    refine wpAny_in_of (kV_is ry) hd dd.mapOf ?_
    rw [← (rel.val k).isSome_eq, ← l]
    exact h _ (I.tok _)
  · subst ey
    cases (show u = Value.ref b from ry)
    obtain ⟨z, hd, xs, rel, dd⟩ := dt_rd I.hok e
    refine wpAny_in_heap (tupleKind_room_in1 hu) (key_of I.hok eb) hd dd ?_
    have q := (rel.val k).isSome_eq
    rw [Option.isSome_map] at q
    rw [← q, ← l]
    exact h _ (I.tok _)
theorem d_notIn {Q : Value → Shared → Prop} (hu : A.units + 1 < cLine) (I : Inv X pins σ H s) (g : DGet H a y o) (ry : RelV y u) (h : ∀ s', Inv X pins σ H s' → Q (.bool (!o.isSome)) s') :
    wpAny (model X.prog X.w) A (compareOp .NotIn u (.ref a)) Q E s := by
  rcases g with ⟨kvs, k, e, ey, l⟩ | ⟨kvs, k, b, e, ey, eb, l⟩
  · subst ey
    obtain ⟨z, hd, vs, rel, dd⟩ := dk_rd I.hok e
    refine wpAny_notIn_of (kV_is ry) hd dd.mapOf ?_
    rw [← (rel.val k).isSome_eq, ← l]
    exact h _ (I.tok _)
  · subst ey
    cases (show u = Value.ref b from ry)
    obtain ⟨z, hd, xs, rel, dd⟩ := dt_rd I.hok e
    refine wpAny_notIn_heap (tupleKind_room_in1 hu) (key_of I.hok eb) hd dd ?_
    have q := (rel.val k).isSome_eq
    rw [Option.isSome_map] at q
    rw [← q, ← l]
    exact h _ (I.tok _)
/-- a dict's object is replaced -/
theorem d_write {h' : Heap} {t' : Nat} {ob : HO} (I : Inv X pins σ H s) (mu : Mut (H a)) (hs : Heap.SameBut a s.heap h') (he : ∃ q, h'.get? a = some q) (new : ObjOk X.prog X.w (upd H a ob) h' a ob) :
    Inv X pins σ (upd H a ob) { s with heap := h', toks := t' } :=
  I.write (x := a) (e := a) mu (.inl rfl) (fun b q hb z => (hs.2 b hb).trans z) he new
theorem dk_new {P : Program} {w : World} {H' : Hp} {h' : Heap} {kvs : List (Key × V)} {vs : List (Key × Value)} (z : kvs.length ≤ sizeLine) (hd : (a == sysModules) = false) (rel : KV kvs vs) (dd : h'.DictOf (mixKind P w) a vs) :
    ObjOk P w H' h' a (.dK kvs) := ⟨z, hd, vs, rel, dd⟩
/-- d[y] = v -/
theorem d_setItem {H' : Hp} {Q : Unit → Shared → Prop} (hu : A.units + 1 < cLine) (I : Inv X pins σ H s) (g : DPut H a y v H') (ry : RelV y u) (rv : RelV v r) (h : ∀ s', Inv X pins σ H' s' → Q () s') :
    wpAny (model X.prog X.w) A (setItem (.ref a) u r) Q E s := by
  rcases g with ⟨kvs, k, e, ey, l, eH⟩ | ⟨kvs, k, b, e, ey, eb, l, eH⟩
  · subst ey eH
    obtain ⟨z, hd, vs, rel, dd⟩ := dk_of I.hok e
    have hz : vs.length ≤ sizeLine := by rw [← rel.length]; exact z
    have hl : (putK kvs k v).length ≤ sizeLine := by have := length_putK kvs k v; omega
    refine wpAny_setItem_pairs (hsz := hz) (kV_is ry) dd fun h' dd' hs => h _ ?_
    have he : ∃ q, h'.get? a = some q := let ⟨q, _, _, hq, _⟩ := dd'; ⟨q, hq⟩
    exact d_write I (by rw [e]; exact True.intro) hs he (dk_new hl hd (rel.put k rv) dd')
  · subst ey eH
    cases (show u = Value.ref b from ry)
    obtain ⟨z, hd, xs, rel, dd⟩ := dt_of I.hok e
    have hz : xs.length ≤ sizeLine := by rw [← Paired.length rel]; exact z
    have hl : (putK kvs k v).length ≤ sizeLine := by have := length_putK kvs k v; omega
    refine wpAny_setItem_heap (hsz := hz) (tupleKind_room_in1 hu) (key_of I.hok eb) dd fun h' dd' hs => h _ ?_
    obtain ⟨q, es, ep, hq, h2, h3, h4, _, h5⟩ := dd'
    refine d_write I (by rw [e]; exact True.intro) hs ⟨q, hq⟩ ⟨hl, hd, _, (rel.put k eb rv).keeps fun c ys ec => ?_, q, es, ep, hq, h2, h3, h4, h5⟩
    rw [upd_ne (ne_of ec e (fun z => nomatch z))]
    exact ec
end

section
variable {X : Cx} {pins : List (Addr × Obj)} {σ : St} {H : Hp} {s : Shared} {a : Addr} {kvs : List (Key × V)} {k : Key} {u : Value} {A : Around} {E : Value → Shared → Prop}
/-- len(d) -/
theorem d_len {Q : Value → Shared → Prop} (I : Inv X pins σ H s) (e : Rd H a (.dK kvs)) (h : ∀ t s', Inv X pins σ H s' → Q (.int kvs.length t) s') : wpAny (model X.prog X.w) A (call (.builtin "len") [.ref a]) Q E s := by
  obtain ⟨z, hd, vs, rel, dd⟩ := dk_rd I.hok e
  refine call_len_dict hd dd (by rw [← rel.length]; rw [sizeLine_eq] at z; omega) ?_
  rw [← rel.length]
  exact h _ _ (I.tok _)
end


/-! ### readings and rules -/
/-- the element of a subscription, not a slice -/
def NoSl (i : Expr) : Prop := ∀ ov iv, subscripted i false ov iv = operate [ov, iv] (getItem ov iv)
theorem dict_typeIs {X : Cx} {pins : List (Addr × Obj)} {σ : St} {H : Hp} {s : Shared} {a : Addr} {y : V} {o : Option V} (I : Inv X pins σ H s) (g : DGet H a y o) : s.TypeIs (.ref a) "dict" := by
  rcases g with ⟨kvs, k, e, _, _⟩ | ⟨kvs, k, b, e, _, _, _⟩
  · obtain ⟨_, _, vs, _, dd⟩ := dk_rd I.hok e
    exact dd.typeIs
  · obtain ⟨_, _, xs, _, dd⟩ := dt_rd I.hok e
    exact dd.typeIs
/-- d[y] -/
def tDGet (td ty : TE) : TE := fun σ H Q => td σ H fun x H1 => ty σ H1 fun y H2 => ∃ a v, x = .ref a ∧ DGet H2 a y (some v) ∧ Q v H2
/-- y in d, y not in d -/
def tDIn (ty td : TE) : TE := fun σ H Q => ty σ H fun y H1 => td σ H1 fun x H2 => ∃ a o, x = .ref a ∧ DGet H2 a y o ∧ Q (.bl o.isSome) H2
def tDNotIn (ty td : TE) : TE := fun σ H Q => ty σ H fun y H1 => td σ H1 fun x H2 => ∃ a o, x = .ref a ∧ DGet H2 a y o ∧ Q (.bl (!o.isSome)) H2
/-- d[y] = v -/
def sDPut (td ty tv : TE) : TS := fun D σ H => tv σ H fun v H1 => td σ H1 fun x H2 => ty σ H2 fun y H3 => ∃ a H4, x = .ref a ∧ DPut H3 a y v H4 ∧ D.nx σ H4
/-- d[y] op= v -/
def sDAug (td ty tv : TE) (rd : V → V → Hp → VK → Prop) : TS := fun D σ H => td σ H fun x H1 => ty σ H1 fun y H2 => ∃ a v, x = .ref a ∧ DGet H2 a y (some v) ∧
  tv σ H2 fun y2 H3 => rd v y2 H3 fun z H4 => ∃ H5, DPut H4 a y z H5 ∧ D.nx σ H5
/-- del d[y] -/
def sDDel (td ty : TE) : TS := fun D σ H => td σ H fun x H1 => ty σ H1 fun y H2 => ∃ a kvs k, x = .ref a ∧ H2 a = some (.dK kvs) ∧ y = kV k ∧ (valV kvs k).isSome = true ∧ D.nx σ (upd H2 a (.dK (dropK kvs k)))

section
variable {X : Cx} {o i e value : Expr} {pos pos' tpos : Pos} {td ty tv : TE}
end


/-! ### displays -/
theorem dk_empty {P : Program} {w : World} {H : Hp} (h : Heap) (hb : sysModules < h.objs.size) : ObjOk P w H (h.push { cls := .type "dict", data := .dict #[] }) h.objs.size (.dK []) :=
  ⟨Nat.zero_le _, beq_eq_false_iff_ne.mpr (Ne.symm (Nat.ne_of_lt hb)), [], .nil, Heap.DictOf.new h⟩
/-- {}, to be a dict of the kind that is wanted -/
def tDNewK : TE := fun _ H Q => ∀ p, H p = none → Q (.ref p) (upd H p (.dK []))
def tDNewT : TE := fun _ H Q => ∀ p, H p = none → Q (.ref p) (upd H p (.dT []))
section
variable {X : Cx} {pos : Pos}
theorem pe_dnewK : PE X (.Dict [] [] pos) tDNewK := fun pins s σ H Q I h =>
  wpAny_Dict_empty ⟨.ref s.heap.objs.size, _, I.laid (a := s.heap.objs.size) (o := .dK []) (t' := s.toks) (fun _ _ q => Heap.get?_push_of_some _ q) (Nat.le_refl _) (dk_empty s.heap I.big), rfl, h _ (I.hok.fresh (Nat.le_refl _))⟩
end

/-- the pairs of a display, from the left -/
def tPairs : List (TE × TE) → St → Hp → (List (V × V) → Hp → Prop) → Prop
  | [], _, H, Q => Q [] H
  | (tk, tv) :: r, σ, H, Q => tk σ H fun x H1 => tv σ H1 fun y H2 => tPairs r σ H2 fun ps H3 => Q ((x, y) :: ps) H3
abbrev VV : List (V × V) → List (Value × Value) → Prop := Paired fun p q => RelV p.1 q.1 ∧ RelV p.2 q.2
def PPs (X : Cx) (pos : Pos) (keys : List (Option Expr)) (values : List Expr) (trs : List (TE × TE)) : Prop :=
  ∀ (pins : List (Addr × Obj)) (s : Shared) (σ : St) (H : Hp) (Q : List (V × V) → Hp → Prop), Inv X pins σ H s → tPairs trs σ H Q →
    wpAny (model X.prog X.w) X.A (evalPairs (pairTrees keys values X.env pos)) (fun vs s' => ∃ ps H', Inv X pins σ H' s' ∧ VV ps vs ∧ Q ps H') X.xe s
theorem pps_nil {X : Cx} {pos : Pos} : PPs X pos [] [] [] := fun pins s σ H Q I h => pairTrees_nil_walk ⟨[], H, I, .nil, h⟩
theorem pps_cons {X : Cx} {pos : Pos} {k v : Expr} {ks : List (Option Expr)} {vs : List Expr} {tk tv : TE} {trs : List (TE × TE)} (hk : PE X k tk) (hv : PE X v tv) (hr : PPs X pos ks vs trs) :
    PPs X pos (some k :: ks) (v :: vs) ((tk, tv) :: trs) := fun pins s σ H Q I h =>
  pairTrees_cons_walk (thn (hk pins s σ H _ I h) fun u s1 ⟨x, H1, I1, rx, q1⟩ => thn (hv pins s1 σ H1 _ I1 q1) fun w2 s2 ⟨y, H2, I2, ry, q2⟩ =>
    thn (hr pins s2 σ H2 _ I2 q2) fun ws s3 ⟨ps, H3, I3, rel, q3⟩ => ⟨(x, y) :: ps, H3, I3, .cons ⟨rx, ry⟩ rel, q3⟩)

def mergeK (kvs more : List (Key × V)) : List (Key × V) := more.foldl (fun acc kv => putK acc kv.1 kv.2) kvs
theorem KV.merge : ∀ {more : List (Key × V)} {rs : List (Key × Value)} {kvs : List (Key × V)} {vs : List (Key × Value)}, KV more rs → KV kvs vs → KV (mergeK kvs more) (merged vs rs) := by
  intro more rs kvs vs r
  unfold KV at r
  induction r generalizing kvs vs with
  | nil => intro q; exact q
  | @cons p q ps qs h t ih =>
    intro r0
    have e : KV (putK kvs p.1 p.2) (stored vs q.1 q.2) := by
      have := r0.put p.1 h.2
      rw [← h.1]; exact this
    exact ih e
theorem length_mergeK : ∀ (more kvs : List (Key × V)), (mergeK kvs more).length ≤ kvs.length + more.length
  | [], kvs => by show kvs.length ≤ kvs.length + 0; omega
  | p :: r, kvs => by
    have h1 := length_mergeK r (putK kvs p.1 p.2)
    have h2 := length_putK kvs p.1 p.2
    show (mergeK (putK kvs p.1 p.2) r).length ≤ _
    rw [List.length_cons]; omega
theorem carries_of {P : Program} {w : World} : ∀ {kvs : List (Key × V)} {ws : List (Value × Value)}, VV (kvs.map fun kv => (kV kv.1, kv.2)) ws → ∃ rs, Carries (mixKind P w) ws rs ∧ KV kvs rs
  | [], _, r => by rw [List.map_nil] at r; cases r; exact ⟨[], True.intro, .nil⟩
  | p :: kvs, _, r => by
    rw [List.map_cons] at r
    cases r with
    | @cons a b as bs h t =>
      obtain ⟨rs, c, q⟩ := carries_of (P := P) (w := w) t
      obtain ⟨b1, b2⟩ := b
      exact ⟨(p.1, b2) :: rs, ⟨kV_is h.1, rfl, c⟩, .cons ⟨rfl, h.2⟩ q⟩
/-- {k: v, ..} with keys ints and texts; the new dict stands empty while the pairs are made -/
def tDisp (trs : List (TE × TE)) : TE := fun σ H Q => ∀ p, H p = none → tPairs trs σ (upd H p (.dK [])) fun ps H2 => H2 p = some (.dK []) ∧ ∃ kvs : List (Key × V), ps = kvs.map (fun kv => (kV kv.1, kv.2)) ∧ kvs.length ≤ 15 ∧ Q (.ref p) (upd H2 p (.dK (mergeK [] kvs)))
theorem pe_disp {X : Cx} {pos : Pos} {keys : List (Option Expr)} {values : List Expr} {trs : List (TE × TE)} (h : PPs X pos keys values trs) (hall : keys.all (·.isSome) = true) (hl : keys.length = values.length) (h0 : keys ≠ [])
    (h15 : keys.length ≤ 15) : PE X (.Dict keys values pos) (tDisp trs) := by
  intro pins s σ H Q I q
  have hn := I.hok.fresh (Nat.le_refl s.heap.objs.size)
  have I1 := I.laid (a := s.heap.objs.size) (o := .dK []) (h' := s.heap.push { cls := .type "dict", data := .dict #[] }) (t' := s.toks) (fun _ _ q => Heap.get?_push_of_some _ q) (Nat.le_refl _) (dk_empty s.heap I.big)
  refine wpAny_Dict_walk (knd := mixKind X.prog X.w) hall hl h0 h15 (thn (h pins _ σ _ _ I1 (q _ hn)) fun ws s2 ⟨ps, H2, I2, rel, e, kvs, ep, lk, q2⟩ => ?_)
  subst ep
  obtain ⟨rs, c, rk⟩ := carries_of (P := X.prog) (w := X.w) rel
  obtain ⟨z, hd, vs0, r0, dd⟩ := dk_of I2.hok e
  cases r0
  refine ⟨rs, c, dd, fun h' dd' hs => ⟨.ref s.heap.objs.size, _, ?_, rfl, q2⟩⟩
  have hz : (mergeK [] kvs).length ≤ sizeLine := by
    have h1 := length_mergeK kvs []
    rw [List.length_nil] at h1
    rw [sizeLine_eq]; omega
  have he : ∃ q, h'.get? s.heap.objs.size = some q := let ⟨q, _, _, hq, _⟩ := dd'; ⟨q, hq⟩
  exact d_write I2 (by rw [e]; exact True.intro) hs he (dk_new hz hd (rk.merge .nil) dd')


/-! ### methods -/
/-- a method call o.m(e) of a built-in, with one argument: what must be seen of the text -/
structure M1 (X : Cx) (o : Expr) (m : Str) (apos : Pos) (e : Expr) (cpos : Pos) : Prop where
  base : attributeBase o m X.env (eval o X.env) = eval o X.env
  few : ((backTo cpos (starEach [e] X.env)).all (fun x => !x.1) && (backToKw cpos (keywordEach [] X.env)).all (fun x => x.1.isSome)
    && decide (([e] : List Expr).length + ([] : List Keyword).length + (if ([] : List Keyword).isEmpty then 0 else 1) < 30)) = true
  line : (apos.endLine == cpos.line) = true
  trees : backTo cpos (starEach [e] X.env) = [(false, eval e X.env)]
structure M2 (X : Cx) (o : Expr) (m : Str) (apos : Pos) (e f : Expr) (cpos : Pos) : Prop where
  base : attributeBase o m X.env (eval o X.env) = eval o X.env
  few : ((backTo cpos (starEach [e, f] X.env)).all (fun x => !x.1) && (backToKw cpos (keywordEach [] X.env)).all (fun x => x.1.isSome)
    && decide (([e, f] : List Expr).length + ([] : List Keyword).length + (if ([] : List Keyword).isEmpty then 0 else 1) < 30)) = true
  line : (apos.endLine == cpos.line) = true
  trees : backTo cpos (starEach [e, f] X.env) = [(false, eval e X.env), (false, eval f X.env)]

/-- a is a dict, whatever its keys -/
def IsD (H : Hp) (a : Addr) : Prop := (∃ kvs, Rd H a (.dK kvs)) ∨ ∃ kvs, Rd H a (.dT kvs)
section
variable {X : Cx} {pins : List (Addr × Obj)} {σ : St} {H : Hp} {s : Shared} {a : Addr} {y d : V} {u r : Value} {o : Option V} {A : Around} {E : Value → Shared → Prop}
end

def tDGet1 (td ty : TE) : TE := fun σ H Q => td σ H fun x H1 => ∃ a, x = .ref a ∧ IsD H1 a ∧ ty σ H1 fun y H2 => ∃ o, DGet H2 a y o ∧ Q (o.getD .non) H2
def tDGet2 (td ty tx : TE) : TE := fun σ H Q => td σ H fun x H1 => ∃ a, x = .ref a ∧ IsD H1 a ∧ ty σ H1 fun y H2 => tx σ H2 fun z H3 => ∃ o, DGet H3 a y o ∧ Q (o.getD z) H3
/-- d.pop(k): there; d.pop(k, x): there or not -/
def tDPop1 (td ty : TE) : TE := fun σ H Q => td σ H fun x H1 => ∃ a, x = .ref a ∧ IsD H1 a ∧ ty σ H1 fun y H2 => ∃ kvs k v, H2 a = some (.dK kvs) ∧ y = kV k ∧ valV kvs k = some v ∧ Q v (upd H2 a (.dK (dropK kvs k)))
def tDPop2 (td ty tx : TE) : TE := fun σ H Q => td σ H fun x H1 => ∃ a, x = .ref a ∧ IsD H1 a ∧ ty σ H1 fun y H2 => tx σ H2 fun z H3 => ∃ kvs k, H3 a = some (.dK kvs) ∧ y = kV k ∧
  (∀ v, valV kvs k = some v → Q v (upd H3 a (.dK (dropK kvs k)))) ∧ (valV kvs k = none → Q z H3)
section
variable {X : Cx} {o e f : Expr} {apos cpos : Pos} {td ty tx : TE}
end

/-! ### dict(d): a copy -/
section
variable {X : Cx} {pins : List (Addr × Obj)} {σ : St} {H : Hp} {s : Shared} {a : Addr} {kvs : List (Key × V)} {A : Around} {E : Value → Shared → Prop}
end


section
variable {X : Cx} {pins : List (Addr × Obj)} {σ : St} {H : Hp} {s : Shared} {a : Addr} {y : V} {u : Value} {A : Around} {E : Value → Shared → Prop}
end
end L2
namespace L2
open PySem PySem.Spec PyProof.Rows
section
variable {X : Cx}
/-- len of a dict -/
theorem call_lenD : CallR X (.builtin "len") (fun xs H Q => ∃ a kvs, xs = [V.ref a] ∧ H a = some (.dK kvs) ∧ Q (.int kvs.length) H) := by
  intro pins s σ H xs us Q I r h
  obtain ⟨a, kvs, rfl, ha, q⟩ := h
  obtain ⟨u, rfl, ru⟩ := vals1 r
  cases ru
  exact d_len I (.inl ha) fun t s' I' => ⟨.int kvs.length, H, I', ⟨t, rfl⟩, q⟩
end
/-! ### a dict's pairs: keys that differ -/
section
variable {κ : Type} [DecidableEq κ]
theorem valV_not {kvs : List (κ × V)} {k : κ} (h : valV kvs k = none) : ¬ k ∈ kvs.map (·.1) := by
  intro m
  obtain ⟨p, hp, e⟩ := List.mem_map.mp m
  have q : (kvs.any fun kv => decide (kv.1 = k)) = true := List.any_eq_true.mpr ⟨p, hp, decide_eq_true e⟩
  rw [valV_any, h] at q
  exact absurd q (by simp)
theorem valV_in {kvs : List (κ × V)} {k : κ} {v : V} (h : valV kvs k = some v) : k ∈ kvs.map (·.1) := by
  have q : (kvs.any fun kv => decide (kv.1 = k)) = true := by
    rw [valV_any, h]
    all_goals rfl
  obtain ⟨p, hp, e⟩ := List.any_eq_true.mp q
  exact List.mem_map.mpr ⟨p, hp, of_decide_eq_true e⟩
end
end L2


set_option Elab.async false
set_option linter.all false
set_option maxRecDepth 100000
/-! MY LAYER, 14: own classes in one word each: a method with its promise, a class that is made -/
namespace L2
open PySem PySem.Spec PyProof.Rows
/-- a method of the text, with its promise -/
structure Mf (P : Program) (w : World) (K : PySem.W.Frag) (mg : Str → Option Value) (base : Heap) (k : Nat) (C : Addr) (m : Str) (ps : List Str) (sp : Sp) : Prop where
  ex : ∃ f fd, FnOk P w K mg base CX0 k f fd ps sp ∧ Meth K C m f ∧ Binds K fd ps []
/-- a class's __init__, with its promise -/
structure Cf (P : Program) (w : World) (K : PySem.W.Frag) (mg : Str → Option Value) (base : Heap) (k : Nat) (C : Addr) (x : Str) (ps : List Str) (sp : Sp) : Prop where
  ex : ∃ f fd, FnOk P w K mg base CX0 k f fd ps sp ∧ Mk K C f ∧ Binds K fd ps [] ∧ mg x = some (.ref C)
/-- what the top has made of a method, of an __init__ -/
structure TopM (K : PySem.W.Frag) (C : Addr) (m qual : Str) (st : Stmt) (ps : List Str) : Prop where
  ex : ∃ f fd, Fun K m qual st f fd ∧ Meth K C m f ∧ Binds K fd ps []
structure TopI (K : PySem.W.Frag) (mg : Str → Option Value) (C : Addr) (x qual : Str) (st : Stmt) (ps : List Str) : Prop where
  ex : ∃ f fd, Fun K "__init__" qual st f fd ∧ Mk K C f ∧ Binds K fd ps [] ∧ mg x = some (.ref C)
section
variable {P : Program} {w : World} {K : PySem.W.Frag} {mg : Str → Option Value} {base : Heap}
end
section
variable {X : Cx} {k j : Nat} {C : Addr} {m x : Str} {ps : List Str} {sp : Sp} {o e : Expr} {es : List Expr} {ta : TE} {t : TA} {p apos pos : Pos} {pl : Sem Bool}
end
end L2

set_option Elab.async false
set_option linter.all false
set_option maxRecDepth 100000
/-! MY LAYER, 15: walks over a dict: it stands frozen while it is walked -/
namespace L2
open PySem PySem.Spec PyProof.Rows
section
variable {X : Cx} {pins : List (Addr × Obj)} {σ : St} {H : Hp} {s : Shared} {d : Addr} {o : Obj} {u : HO}
end
/-- an expression behind which a dict that it froze stands free again -/
def tThaw (t : TE) : TE := fun σ H Q => ∃ d u, H d = some u ∧ Mut (some u) ∧ t σ H fun v H' => ∃ o, H' d = some (.frz o u) ∧ Q v (upd H' d u)
theorem key_rel {P : Program} {w : World} {k : Key} {v : Value} (h : (mixKind P w).is k v = true) : RelV (kV k) v := by
  rw [mixKind_is] at h
  rcases keyIs_shape h with ⟨i, t, rfl, rfl⟩ | ⟨x, t, rfl, rfl⟩
  · exact ⟨t, rfl⟩
  · exact ⟨t, rfl⟩
/-- list(d): a new list of its keys, as they came -/
def rListD : List V → Hp → VK → Prop := fun xs H Q => ∃ d kvs, xs = [.ref d] ∧ H d = some (.dK kvs) ∧ ∀ l, H l = none → Q (.ref l) (upd H l (.lst (kvs.map fun kv => kV kv.1)))
theorem vals_keys {P : Program} {w : World} : ∀ (kvs : List (Key × V)) (vs : List (Key × Value)) (us : List Value), KV kvs vs → us.length = vs.length → (∀ (j : Nat) (v : Value), us[j]? = some v → ∃ k x, vs[j]? = some (k, x) ∧ (mixKind P w).is k v = true) → Vals (kvs.map fun kv => kV kv.1) us := by
  intro kvs vs us r
  unfold KV at r
  induction r generalizing us with
  | nil =>
    intro hl _
    cases us with
    | nil => exact .nil
    | cons a b => simp at hl
  | @cons p q ps qs h t ih =>
    intro hl hp
    cases us with
    | nil => simp at hl
    | cons a b =>
      obtain ⟨k, x, e, hk⟩ := hp 0 a rfl
      have e' : q = (k, x) := by simpa using e
      rw [List.map_cons]
      refine .cons ?_ (ih b (by simpa using hl) fun j v hv => ?_)
      · rw [h.1, e']; exact key_rel hk
      · simpa using hp (j + 1) v (by simpa using hv)
end L2

set_option Elab.async false
set_option linter.all false
set_option maxRecDepth 100000
/-! MY LAYER, 16: d.values(), d walked; sum of a list -/
namespace L2
open PySem PySem.Spec PyProof.Rows
/-- a dict's values, its keys, in turn -/
def Itv (d : Addr) (o : Obj) (kvs : List (Key × V)) : It :=
  ⟨fun i H => H d = some (.frz o (.dK kvs)) ∧ i < kvs.length, fun i H v H' => H' = H ∧ ∃ k, kvs[i]? = some (k, v), fun i H => H d = some (.frz o (.dK kvs)) ∧ kvs.length ≤ i⟩
def Itk (d : Addr) (o : Obj) (kvs : List (Key × V)) : It :=
  ⟨fun i H => H d = some (.frz o (.dK kvs)) ∧ i < kvs.length, fun i H v H' => H' = H ∧ ∃ k x, kvs[i]? = some (k, x) ∧ v = kV k, fun i H => H d = some (.frz o (.dK kvs)) ∧ kvs.length ≤ i⟩
/-- for k in d: the dict stands frozen behind it -/
def iKeys (tl : TE) : TI := fun σ H R => tl σ H fun x H1 => ∃ d kvs, x = .ref d ∧ H1 d = some (.dK kvs) ∧ ∀ o, R (Itk d o kvs) (upd H1 d (.frz o (.dK kvs)))
end L2

set_option Elab.async false
set_option linter.all false
set_option maxRecDepth 100000
/-! MY LAYER, 17: sorted(d), sum(xs), d.values() -/
namespace L2
open PySem PySem.Spec PyProof.Rows
/-- sorted(d) of a dict by ints -/
def rSortedD : List V → Hp → VK → Prop := fun xs H Q => ∃ d kvs ns, xs = [.ref d] ∧ H d = some (.dK kvs) ∧ kvs.map (·.1) = ns.map Sum.inl ∧ ns.length < 64 ∧
  ∀ (l : Addr) (ns' : List Int), H l = none → ns'.Perm ns → ns'.Pairwise (· ≤ ·) → Q (.ref l) (upd H l (.lst (ns'.map V.int)))
theorem call_sortedD {X : Cx} (hc : X.calm = true) : CallR X (.builtin "sorted") rSortedD := by
  intro pins s σ H xs us Q I r h
  obtain ⟨d, kvs, ns, rfl, hd, hks, h64, q⟩ := h
  obtain ⟨u, rfl, ru⟩ := vals1 r
  cases ru
  obtain ⟨z, lo, vs, rel, dd⟩ := (show ObjOk X.prog X.w H s.heap d (.dK kvs) from I.hok d _ hd)
  obtain ⟨ep, da⟩ := dd.dictAt
  have hl : kvs.length = vs.length := rel.length
  have hln : kvs.length = ns.length := by have := congrArg List.length hks; simpa using this
  refine Calls.call_function_entry kind_sorted plain_sorted entry_sorted (args_sorted1 _) ?_
  unfold Builtin.«sorted»
  refine wpAny_bind (m := checkCount "sorted" 1 1 _) (wpAny_pure ?_)
  refine wpAny_bind (PySem.W.kdu_collect (PySem.W.kdl_dict (knd := mixKind X.prog X.w) lo) (I.ok.hd hc) da (by omega) fun h' tk acc hk hacc => ?_)
  have hv : Vals (kvs.map fun kv => kV kv.1) acc.toList := vals_keys (P := X.prog) (w := X.w) kvs vs acc.toList rel (by rw [Array.length_toList]; exact hacc.1) fun j v e => hacc.2 j v (by rw [← Array.getElem?_toList]; exact e)
  have ek : (kvs.map fun kv => kV kv.1) = ns.map V.int := by
    have : (kvs.map fun kv => kV kv.1) = (kvs.map (·.1)).map kV := by rw [List.map_map]; rfl
    rw [this, hks, List.map_map]; rfl
  rw [ek] at hv
  have hal : acc.toList.length = ns.length := by rw [← hv.length, List.length_map]
  refine wpAny_bind (wpAny_newList ?_ (by rw [hal]; exact Nat.le_of_lt (Nat.lt_of_lt_of_le h64 (by rw [sizeLine_eq]; decide))))
  have hoL : (h'.push (seqObj "list" acc.toList.toArray 0)).get? h'.objs.size = some (seqObj "list" acc.toList.toArray 0) := Heap.get?_push_size _ rfl
  show wpAny _ _ _ _ _ { s with heap := h'.push (seqObj "list" acc.toList.toArray 0), toks := tk }
  refine wpAny_bind (wpAny_holding (wpAny_call_entry slot_list_sort ⟨_, hoL, rfl⟩ entry_list_sort (list_sort_tree hoL (intsAre_of hv) (by omega) fun out ns' a1 a2 a3 => ⟨_, rfl, ?_⟩) (args_list_sort _)))
  refine wpAny_pure ⟨_, rfl, ?_⟩
  obtain ⟨e, he⟩ := sortedHeap_at (out := out) hoL
  have I1 : Inv X pins σ H { s with heap := h', toks := tk } := I.kept (t' := tk) hk
  have old : ∀ b o, h'.get? b = some o → (sortedHeap (h'.push (seqObj "list" acc.toList.toArray 0)) h'.objs.size acc.toList out).get? b = some o := fun b o h1 => by
    have h2 := Heap.lt_size h1
    rw [sortedHeap_old (Nat.ne_of_lt h2) (by rw [size_push']; exact Nat.lt_succ_of_lt h2)]
    exact Heap.get?_push_of_some _ h1
  refine ⟨.ref h'.objs.size, _, I1.laid (a := h'.objs.size) (o := .lst (ns'.map V.int)) (t' := tk) old (Nat.le_refl _) ?_, rfl, q _ ns' (I1.hok.fresh (Nat.le_refl _)) a2 a3⟩
  have hp := a2.length_eq
  exact ⟨by rw [List.length_map, hp]; exact Nat.le_of_lt (Nat.lt_of_lt_of_le h64 (by rw [sizeLine_eq]; decide)), out.toList, e, vals_ints a1, by simpa using he⟩
/-- sum of a list of small ints -/
def rSumL (K : PySem.W.Frag) : List V → Hp → VK → Prop := fun vs H Q => ∃ (p : Addr) (ns : List Int), vs = [.ref p] ∧ SqL K H p (ns.map V.int) ∧ ns.length ≤ 1000 ∧ (∀ n ∈ ns, 0 ≤ n ∧ n ≤ 1000000) ∧ Q (.int ns.sum) H
/-- for v in d.values() -/
def iVals (tl : TE) : TI := fun σ H R => tl σ H fun x H1 => ∃ d kvs, x = .ref d ∧ H1 d = some (.dK kvs) ∧ ∀ o, R (Itv d o kvs) (upd H1 d (.frz o (.dK kvs)))
end L2

set_option Elab.async false
set_option linter.all false
set_option maxRecDepth 100000
/-! MY LAYER, 18: d.items() walked by a tuple target -/
namespace L2
open PySem PySem.Spec PyProof.Rows
/-- a dict's pairs in turn, a new tuple each -/
def Iti (d : Addr) (o : Obj) (kvs : List (Key × V)) : It :=
  ⟨fun i H => H d = some (.frz o (.dK kvs)) ∧ i < kvs.length,
   fun i H v H' => ∃ p k x, H p = none ∧ v = .ref p ∧ kvs[i]? = some (k, x) ∧ H' = upd H p (.tup [kV k, x]),
   fun i H => H d = some (.frz o (.dK kvs)) ∧ kvs.length ≤ i⟩
/-- for k, v in d.items() -/
def iItems (tl : TE) : TI := fun σ H R => tl σ H fun x H1 => ∃ d kvs, x = .ref d ∧ H1 d = some (.dK kvs) ∧ ∀ o, R (Iti d o kvs) (upd H1 d (.frz o (.dK kvs)))
end L2

set_option Elab.async false
set_option linter.all false
set_option maxRecDepth 100000
/-! MY LAYER, 39: {k: v for ..} of dicts by ints and texts -/
namespace L2
open PySem PySem.Spec PyProof.Rows
theorem dset_dK {X : Cx} {pins : List (Addr × Obj)} {s : Shared} {σ : St} {H : Hp} {d : Addr} {kvs : List (Key × V)} {k : Key} {v : V} {ky u : Value} {Q : Hp → Prop} (I : Inv X pins σ H s) (hH : H d = some (.dK kvs)) (hz : kvs.length < sizeLine) (rk : RelV (kV k) ky) (rv : RelV v u)
    (q : Q (upd H d (.dK (putK kvs k v)))) : wpAny (model X.prog X.w) X.A (dictSet d ky u) (fun _ s' => ∃ H', Inv X pins σ H' s' ∧ Q H') X.xe s := by
  obtain ⟨_, hd, vs, rel, dd⟩ := dk_of I.hok hH
  refine wpAny_dictSet_pairs (knd := mixKind X.prog X.w) (k := k) (kV_is rk) dd (fun h' dd' hs => ?_) (by rw [← rel.length]; omega)
  refine ⟨_, ?_, q⟩
  obtain ⟨o, ho, _⟩ := Heap.dictOf_iff.mp dd'
  exact d_write I (by rw [hH]; exact True.intro) hs ⟨o, ho⟩ (dk_new (Nat.le_trans (length_putK kvs k v) (by omega)) hd (rel.put k rv) dd')
/-- what the turns of {k: v for ..} ask -/
def DictGoK (J : It) (D : Addr) (k : Nat) (σ : St) (H1 : Hp) (g : TG) (tc : TT) (tk te : TE) (Q : VK) : Prop :=
  ∃ W : Nat → Nat → List (Key × V) → St → Hp → Prop, (∃ m, W 0 m [] (σ ++ List.replicate k none) (upd H1 D (.dK []))) ∧
    ∀ i m ys σ2 H2, W i m ys σ2 H2 → (J.stop i H2 ∧ Q (.ref D) H2) ∨
      (J.go i H2 ∧ ∃ N : List (Key × V) → St → Hp → Prop, (∀ ys' σ' H', N ys' σ' H' → ∃ m', m' < m ∧ W (i + 1) m' ys' σ' H') ∧ ∀ x H3, J.yld i H2 x H3 → g x σ2 H3 fun σ4 H4 => tc σ4 H4 fun b H5 =>
        if b = true then tk σ4 H5 fun kv H6 => te σ4 H6 fun y H7 => ∃ k : Key, kv = kV k ∧ H7 D = some (.dK ys) ∧ ys.length < sizeLine ∧ N (putK ys k y) σ4 (upd H7 D (.dK (putK ys k y))) else N ys σ4 H5)
def tKComp (n : Nat) (wi : TI) (g : TG) (tc : TT) (tk te : TE) : TE := fun σ H Q => wi σ H fun J H1 => ∀ D, H1 D = none → DictGoK J D n σ H1 g tc tk te Q
section
variable {X : Cx} {N N' : List Str} {o c : Scope}
theorem comp_runK {kx vx tg iter : Expr} {ifs : List Expr} {pos pos' : Pos} {wi : TI} {g : TG} {tc : TT} {tk te : TE} {use : Option (Value → Sem Unit)} {QQ : Value → Shared → Prop} (S : CompSc N N' o c) (hN : X.N = N) (ho : X.env.scope = o) (hc : X.calm = true)
    (hi : PI X tg iter wi) (hg : ∀ C s H fp, PG (compCx X c N' C s H fp) tg g) (ht : ∀ C s H fp, PTs (compCx X c N' C s H fp) ifs tc) (hk : ∀ C s H fp, PE (compCx X c N' C s H fp) kx tk) (he : ∀ C s H fp, PE (compCx X c N' C s H fp) vx te)
    (hs : ∀ x, foldedSetIterable iter X.env x = pure x) {pins : List (Addr × Obj)} {s : Shared} {σ : St} {H : Hp} {Q : VK} (I : Inv X pins σ H s) (h : tKComp (N'.length - N.length) wi g tc tk te σ H Q)
    (post : ∀ (D C : Addr) (s5 : Shared) (H5 : Hp) (m : Str → Option Value), Inv X pins σ H5 s5 → H5 C = none → s5.heap.Ns C m → C ≠ X.env.locals → X.s₀.heap.objs.size ≤ C → (∀ x a, X.env.cells.lookup x = some a → a ≠ C) → (∀ p ∈ X.pn ++ pins, p.1 ≠ C) →
      Q (.ref D) H5 → compPost (model X.prog X.w) X.A X.xe use QQ (.ref D) C (.ok .next) s5) :
    wpAny (model X.prog X.w) X.A (comprehension (.DictComp kx vx [⟨tg, iter, ifs, 0⟩] c pos) c X.env pos' newDict false (eval iter X.env) use) QQ X.xe s := by
  have hclos : closureFor c X.env = pure (clOf X.env.cells c.names []) := closureFor_of fun y hy hf => by
    refine I.ok.has y.1 ?_
    show X.env.scope.names.lookup y.1 = _ ∨ X.env.scope.names.lookup y.1 = _
    rw [ho]; exact (S.free y hy hf).2
  refine wpAny_comprehension_free (use := use) rfl hs hclos S.kind S.loc (thn (hi pins s σ H _ I h) fun v s1 h1 => thn h1 fun itv s2 h2 => ?_)
  obtain ⟨it, fp, tn, J, H2, e, I2, T, st2, f2, hR⟩ := h2
  subst e
  have hD : H2 s2.heap.objs.size = none := I2.fresh
  have I3 : Inv X pins σ (upd H2 s2.heap.objs.size (.dK [])) { s2 with heap := s2.heap.push { cls := .type "dict", data := .dict #[] } } :=
    I2.laid (t' := s2.toks) (fun _ _ q => Heap.get?_push_of_some _ q) (Nat.le_refl _) (dk_empty _ (Nat.lt_trans (by decide) (show mainGlobals < s2.heap.objs.size from (I2.mod.glob.keeps I2.bk).lt)))
  have fpl : ∀ b ∈ fp, b < s2.heap.objs.size := fun b hb => by
    obtain ⟨ob, e, _⟩ := T.obj 0 _ st2 b hb
    exact Heap.lt_size e
  refine wpAny_newObj_type (wpAny_newFunctionEnv S.nocell (by intro y hy; simp at hy) (fun h₁ hns₁ hsb₁ => ?_) S.kind)
  have e3 : ∃ s3 : Shared, s3 = { s2 with heap := s2.heap.push { cls := .type "dict", data := .dict #[] } } := ⟨_, rfl⟩
  obtain ⟨s3, hs3⟩ := e3
  have e3 : s3.heap = s2.heap.push { cls := .type "dict", data := .dict #[] } := by rw [hs3]
  have sz3 : s3.heap.objs.size = s2.heap.objs.size + 1 := by rw [e3, Heap.size_push]
  have fpl3 : ∀ b ∈ fp, b < s3.heap.objs.size := fun b hb => Nat.lt_of_lt_of_le (fpl b hb) (by rw [sz3]; exact Nat.le_succ _)
  have f3 : ∀ b ∈ fp, FpOk X pins (upd H2 s2.heap.objs.size (.dK [])) b := fun b hb => ⟨by rw [upd_ne (Nat.ne_of_lt (fpl b hb))]; exact (f2 b hb).1, (f2 b hb).2⟩
  have st3 : tn 0 s3.heap := T.keep 0 _ _ st2 fun b _ ob e => by rw [e3]; exact Heap.get?_push_of_some _ e
  rw [← hs3] at I3
  show codeAny (model X.prog X.w) X.A (.compStart _ 0 (.ref it) (.ref s2.heap.objs.size) (compEnvC c (clOf X.env.cells c.names []) (s2.heap.push { cls := .type "dict", data := .dict #[] }).objs.size X.env))
    (compPost (model X.prog X.w) X.A X.xe use QQ (.ref s2.heap.objs.size) (s2.heap.push { cls := .type "dict", data := .dict #[] }).objs.size)
    { s2 with heap := h₁, toks := s2.toks + ([] : List (Str × Value)).length }
  have hns : h₁.Ns s3.heap.objs.size (fun x => ([] : List (Str × Value)).reverse.lookup x) := by rw [e3]; exact hns₁
  have hk1 : ∀ b ob, s3.heap.get? b = some ob → h₁.get? b = some ob := fun b ob e => by
    rw [e3] at e
    exact hsb₁.extBut b ob (Nat.ne_of_lt (Heap.lt_size e)) (Heap.get?_push_of_some _ e)
  rw [← e3]
  have es4 : ({ s2 with heap := h₁, toks := s2.toks + ([] : List (Str × Value)).length } : Shared) = { s3 with heap := h₁, toks := s2.toks } := by rw [hs3]; rfl
  rw [es4]
  obtain ⟨W, ⟨m0, w0⟩, turn⟩ := hR s2.heap.objs.size hD
  have I4 := comp_inv (tk := s2.toks) S hN ho I3 f3 fpl3 hns hk1
  have st4 : tn 0 h₁ := T.keep 0 _ _ st3 fun b _ ob e => hk1 b ob e
  generalize hX : compCx X c N' s3.heap.objs.size s3 (upd H2 s2.heap.objs.size (.dK [])) fp = Y at I4
  have Yp : Y.prog = X.prog := by rw [← hX]; rfl
  have Yw : Y.w = X.w := by rw [← hX]; rfl
  have YK : Y.K = X.K := by rw [← hX]; rfl
  have Yc : Y.calm = true := by rw [← hX]; exact hc
  have YA : Y.A = X.A := by rw [← hX]; rfl
  have Yenv : Y.env = compEnvC c (clOf X.env.cells c.names []) s3.heap.objs.size X.env := by rw [← hX]; rfl
  have Yl : Y.env.locals = s3.heap.objs.size := by rw [Yenv]; rfl
  have Yxe : Y.xe = fun _ _ => False := by rw [← hX]; rfl
  have hg' := hg s3.heap.objs.size s3 (upd H2 s2.heap.objs.size (.dK [])) fp
  have ht' := ht s3.heap.objs.size s3 (upd H2 s2.heap.objs.size (.dK [])) fp
  have hk' := hk s3.heap.objs.size s3 (upd H2 s2.heap.objs.size (.dK [])) fp
  have he' := he s3.heap.objs.size s3 (upd H2 s2.heap.objs.size (.dK [])) fp
  rw [hX] at hg' ht' hk' he'
  have stat : ∀ {H' : Hp}, (∀ b ∈ fp, H' b = none) → ∀ b ∈ fp, FpOk Y [] H' b := fun {H'} hn b hb => by
    obtain ⟨_, q1, q2, q3, q4, _⟩ := f3 b hb
    have z1 := I4.ok.exf b (by rw [← hX]; exact hb)
    refine ⟨hn b hb, z1.1, I4.ok.exfs b (by rw [← hX]; exact hb), .inl (by rw [← hX]; exact hb), z1.2, fun p hp => ?_⟩
    have hp' : p ∈ ([] : List (Addr × Obj)) := by
      have : Y.pn = [] := by rw [← hX]; rfl
      rw [this] at hp; exact hp
    cases hp'
  have fin : ∀ (s5 : Shared) (σ5 : St) (H5 : Hp), Inv Y [] σ5 H5 s5 → Q (.ref s2.heap.objs.size) H5 → compPost (model X.prog X.w) X.A X.xe use QQ (.ref s2.heap.objs.size) s3.heap.objs.size (.ok .next) s5 := fun s5 σ5 H5 I5 q => by
    obtain ⟨m, hn, _⟩ := id I5.loc
    rw [Yl] at hn
    have hCn : H5 s3.heap.objs.size = none := by have := I5.free; rw [Yl] at this; exact this
    have un : Un (frs X.stack) fp (upd H2 s2.heap.objs.size (.dK [])) H5 s3.heap s5.heap := by
      have := I5.base
      rw [← hX] at this
      exact this
    have os5 : s5.os = s3.os := by have := I5.os; rw [← hX] at this; exact this
    have hok5 : HOk X.prog X.w H5 s5.heap := by
      have := I5.hok
      rw [Yp, Yw] at this
      exact this
    refine post _ _ s5 H5 m (I3.call' (s' := s5) (ch := fp) os5 un hok5 I5.bare fun b hb => ?_) hCn hn (Nat.ne_of_gt I3.lt) I3.sz (fun x a e => ?_) (fun p hp => ?_) q
    · obtain ⟨_, q1, _, q3, q4, q5⟩ := f3 b hb
      exact ⟨q3, q1, q4, q5⟩
    · obtain ⟨v, ob, e', _⟩ := I3.cell x a e
      exact Nat.ne_of_lt (Heap.lt_size e')
    · exact Nat.ne_of_lt (Heap.lt_size (I3.pin p hp).1)
  have loop : codeAny (model X.prog X.w) X.A (.compLoop (.DictComp kx vx [⟨tg, iter, ifs, 0⟩] c pos) 0 (.ref it) (.ref s2.heap.objs.size) (compEnvC c (clOf X.env.cells c.names []) s3.heap.objs.size X.env))
      (compPost (model X.prog X.w) X.A X.xe use QQ (.ref s2.heap.objs.size) s3.heap.objs.size) { s3 with heap := h₁, toks := s2.toks } := by
    rw [← Yenv, ← YA]
    refine compLoop_anyD (E := fun _ _ => False) (fun n s' => ∃ i ys σ' H', Inv Y [] σ' H' s' ∧ tn i s'.heap ∧ (∀ b ∈ fp, H' b = none) ∧ W i n ys σ' H') (fun _ _ z => z) ?_ m0
      ⟨0, [], _, _, I4, st4, fun b hb => (f3 b hb).1, ?_⟩
    · rintro n s5 ⟨i, ys, σ5, H5, I5, st5, fr5, w5⟩
      rcases turn i n ys σ5 H5 w5 with ⟨stop, qn⟩ | ⟨go, Nn, hNn, step⟩
      · refine thn (T.done Y Yp Yw YK Yc i [] s5 σ5 H5 _ I5 (stat fr5) st5 stop) fun r s6 ⟨hr, I6⟩ => ?_
        subst hr
        have fq := fin s6 σ5 H5 I6 qn
        rw [← YA] at fq
        exact fq
      · refine thn (T.item Y Yp Yw YK Yc i [] s5 σ5 H5 _ I5 (stat fr5) st5 go) fun r s6 ⟨u, hr, h6⟩ => ?_
        subst hr
        refine thn h6 fun _ s7 ⟨x, H7, I7, r7, y7, st7, fr7⟩ => ?_
        have I7' := I7.pinned (stat fr7) (T.obj _ _ st7)
        have back : ∀ {σ9 : St} {H9 : Hp} {s9 : Shared}, Inv Y ([] ++ pinsAt fp s7.heap) σ9 H9 s9 → Inv Y [] σ9 H9 s9 ∧ tn (i + 1) s9.heap ∧ ∀ b ∈ fp, H9 b = none := fun {σ9 H9 s9} I9 => by
          refine ⟨I9.unpinned, T.keep _ _ _ st7 fun b hb ob e => (I9.pin (b, ob) (List.mem_append_right _ (List.mem_append_right _ (mem_pinsAt hb e)))).1, fun b hb => ?_⟩
          obtain ⟨ob, e, d⟩ := T.obj _ _ st7 b hb
          exact (I9.pin (b, ob) (List.mem_append_right _ (List.mem_append_right _ (mem_pinsAt hb e)))).2.1
        have P1 := hg' _ s7 σ5 H7 x u _ I7' r7 (step x H7 y7)
        rw [Yp, Yw, Yxe] at P1
        refine thn P1 fun _ s8 ⟨σ8, H8, I8, q8⟩ => ?_
        have P2 := ht' _ s8 σ8 H8 _ I8 q8
        rw [Yp, Yw, Yxe] at P2
        refine thn P2 fun ok s9 ⟨H9, I9, q9⟩ => ?_
        cases ok with
        | false =>
          rw [if_neg Bool.false_ne_true] at q9
          rw [if_neg Bool.false_ne_true]
          obtain ⟨b1, b2, b3⟩ := back I9
          obtain ⟨m', hm', w9⟩ := hNn _ _ _ q9
          exact ⟨m', hm', i + 1, ys, σ8, H9, b1, b2, b3, w9⟩
        | true =>
          rw [if_pos rfl] at q9
          rw [if_pos rfl]
          have P3 := hk' _ s9 σ8 H9 _ I9 q9
          rw [Yp, Yw, Yxe] at P3
          refine thn P3 fun kv s10 ⟨vk, H10, I10, r10, q10⟩ => ?_
          have P4 := he' _ s10 σ8 H10 _ I10 q10
          rw [Yp, Yw, Yxe] at P4
          refine thn P4 fun y s11 ⟨vy, H11, I11, r11, kk, eb, hDl, hsz, q11⟩ => ?_
          subst eb
          have P5 := dset_dK (X := Y) I11 hDl hsz r10 r11 q11
          rw [Yp, Yw, Yxe] at P5
          refine thn P5 fun _ s12 ⟨H12, I12, q12⟩ => ?_
          obtain ⟨b1, b2, b3⟩ := back I12
          obtain ⟨m', hm', w12⟩ := hNn _ _ _ q12
          exact ⟨m', hm', i + 1, putK ys kk vy, σ8, H12, b1, b2, b3, w12⟩
    · exact w0
  have lp := T.self X.A 0 { s3 with heap := h₁, toks := s2.toks } (fun it' s' => codeAny (model X.prog X.w) X.A (.compLoop (.DictComp kx vx [⟨tg, iter, ifs, 0⟩] c pos) 0 it' (.ref s2.heap.objs.size) (compEnvC c (clOf X.env.cells c.names []) s3.heap.objs.size X.env))
      (compPost (model X.prog X.w) X.A X.xe use QQ (.ref s2.heap.objs.size) s3.heap.objs.size) s') (fun _ _ => False) st4 loop
  exact codeAny_compStart_dict loop (wpAny_mono lp (fun _ _ z => z) fun _ _ z => z.elim)
theorem pe_kcomp {kx vx tg iter : Expr} {ifs : List Expr} {pos : Pos} {wi : TI} {g : TG} {tc : TT} {tk te : TE} (S : CompSc N N' o c) (hN : X.N = N) (ho : X.env.scope = o) (hc : X.calm = true)
    (hi : PI X tg iter wi) (hg : ∀ C s H fp, PG (compCx X c N' C s H fp) tg g) (ht : ∀ C s H fp, PTs (compCx X c N' C s H fp) ifs tc) (hk : ∀ C s H fp, PE (compCx X c N' C s H fp) kx tk) (he : ∀ C s H fp, PE (compCx X c N' C s H fp) vx te)
    (hs : ∀ x, foldedSetIterable iter X.env x = pure x := by intro _; rfl) :
    PE X (.DictComp kx vx [⟨tg, iter, ifs, 0⟩] c pos) (tKComp (N'.length - N.length) wi g tc tk te) := by
  intro pins s σ H Q I h
  show wpAny _ _ (comprehension (.DictComp kx vx [⟨tg, iter, ifs, 0⟩] c pos) c X.env _ newDict false (eval iter X.env)) _ _ _
  refine comp_runK (use := none) S hN ho hc hi hg ht hk he hs I h fun D C s5 H5 m I5 hCn hn n1 n2 n3 n4 q => ⟨m, hn, fun h' hsb => ?_⟩
  exact ⟨.ref D, H5, I5.let hCn n1 n2 n3 n4 hsb, rfl, q⟩
theorem ps_setKComp {i : Nat} {x : Str} {kx vx tg iter : Expr} {ifs : List Expr} {pos pos' spos : Pos} {wi : TI} {g : TG} {tc : TT} {tk te : TE} (hnd : X.N.Nodup) (hx : X.N[i]? = some x) (hl : Loc X.env.scope x) (S : CompSc N N' o c) (hN : X.N = N) (ho : X.env.scope = o) (hc : X.calm = true)
    (hi : PI X tg iter wi) (hg : ∀ C s H fp, PG (compCx X c N' C s H fp) tg g) (ht : ∀ C s H fp, PTs (compCx X c N' C s H fp) ifs tc) (hk : ∀ C s H fp, PE (compCx X c N' C s H fp) kx tk) (he : ∀ C s H fp, PE (compCx X c N' C s H fp) vx te)
    (hsw : swapsWith (.DictComp kx vx [⟨tg, iter, ifs, 0⟩] c pos) (some (.Name x pos')) spos.line X.env = pure true)
    (hs : ∀ x, foldedSetIterable iter X.env x = pure x := by intro _; rfl) (hf : X.fn x = true ∨ X.env.scope.names.lookup x = some .local := by first | exact .inl rfl | exact .inr rfl | assumption) :
    PS X (.Assign [.Name x pos'] (.DictComp kx vx [⟨tg, iter, ifs, 0⟩] c pos) spos) (tAsg (tKComp (N'.length - N.length) wi g tc tk te) (gName i)) := by
  intro pins s σ H D I h
  rw [exec_Assign_Name_used _ _ _ _ hsw]
  refine wpAny_bind (wpAny_standAt (wpAny_bind ?_))
  show wpAny _ X.A (do let _ ← comprehension (.DictComp kx vx [⟨tg, iter, ifs, 0⟩] c pos) c X.env _ newDict false (eval iter X.env) (some (assign (.Name x pos') X.env))) _ _ s
  refine wpAny_bind (thn (comp_runK (QQ := fun _ s' => SP X pins D .next s') (use := some (assign (.Name x pos') X.env)) S hN ho hc hi hg ht hk he hs I h ?_) fun _ s' hq => wpAny_pure (wpAny_pure hq))
  intro L C s5 H5 m I5 hCn hn n1 n2 n3 n4 q
  show wpAny _ X.A (assign (.Name x pos') X.env (.ref L)) _ _ _
  refine wpAny_assign_Name (store_ok2 (v := .ref L) I5 hnd hx hl rfl (fun s6 I6 ⟨a, hsb, ha⟩ => ?_) hf)
  have nCa : C ≠ a := by
    rcases ha with z | z
    · rw [z]; exact n1
    · exact (n3 x a z).symm
  exact ⟨m, hn.sameBut hsb nCa, fun h' hsb' => ⟨_, H5, I6.let hCn n1 n2 n3 n4 hsb', q⟩⟩
end
section
variable {X : Cx}
def rIxK : R2 := fun x y H Q => ∃ d kvs k v, x = .ref d ∧ y = kV k ∧ H d = some (.dK kvs) ∧ valV kvs k = some v ∧ Q v H
theorem ix_dK : IxR X rIxK := by
  intro value slice pins s σ H x y v u Q I rx ry h hs
  obtain ⟨d, kvs, k, z, rfl, rfl, hH, hk, q⟩ := h
  cases rx
  obtain ⟨_, hd, vs, rel, dd⟩ := dk_of I.hok hH
  obtain ⟨w', hw, rw'⟩ := RelO.some_of (v := z) (o := valueAt vs k) (by rw [← hk]; exact rel.val k)
  exact subscriptTail_builtinR (x := w') dd.typeIs PySem.F.slot_dict_getitem.lookup (wpAny_getItem_of (kV_is ry) dd.mapOf hw ⟨rfl, z, H, I.tok _, rw', q⟩) hs
theorem ixK {k : Nat} (hr : Room k X.A) : IxR X rIxK := ix_dK
end
end L2

set_option Elab.async false
set_option linter.all false
set_option maxRecDepth 100000
/-! MY LAYER, 40: dict() of a list of pairs, dicts likened with an empty one, dicts in gen.py's words -/
namespace L2
open PySem PySem.Spec PyProof.Rows
theorem lookup_list_keys : typeLookup (.type "list") "keys" = pure none := by rw [typeLookup_type, builtinLookup_eq_fast]; kernel_rfl
set_option maxHeartbeats 4000000 in
theorem getAttr?_keys_list {prog : Program} {w : World} {A : Around} {E : Value → Shared → Prop} {s : Shared} {a : Addr} {o : Obj} {xs : Array Value} {k : Nat} {Q : Option Value → Shared → Prop}
    (hx : s.heap.get? a = some o) (hc : o.cls = .type "list") (hdat : o.data = .seq xs k) (hd : o.dict = none) (hA : A.handled = none)
    (h : ∀ h' tk e, Heap.NewExcOf s.heap h' e "AttributeError" → Q none { s with heap := h', toks := tk }) :
    wpAny (model prog w) A (getAttr? (.ref a) "keys") Q E s := by
  obtain ⟨c, dct, dat, sl⟩ := o
  simp only at hc hdat hd
  subst hc hdat hd
  obtain ⟨hp, g, d, tk, os⟩ := s
  have hT : ∀ tk', (⟨hp, g, d, tk', os⟩ : Shared).TypeIs (.ref a) "list" := fun _ => ⟨_, hx, rfl⟩
  have f1 := sub_AttributeError
  have f3 := F.slot_list_getattribute.lookup
  have f4 := F.slot_list_getattribute.bind (.ref a)
  have f5 := am_list_getattr_none
  unfold getAttr? getAttrBy? getAttrBy
  repeat (any_goals (first | assumption | exact hT _ | ((with_reducible show wpAny _ _ (call (Value.builtin "list.__getattribute__") _ _) _ _ _); refine call_meets F.slot_list_getattribute (hT _) am_entry_list_getattribute (F.args_list_getattribute_2 _ _) (meets_getattribute_miss_list a xs k sl "keys" _ lookup_list_keys (by decide) (by size_fits)) ⟨hx, hA, fun h' tk' e hx' => ?_⟩) | wp_step))
  obtain ⟨t', u', he⟩ := hx'.there
  show wpAny _ _ (getattributeRaised _ _ _ _ _ _ _) _ _ _
  unfold getattributeRaised
  repeat (any_goals (first | assumption | wp_step))
  exact h _ _ _ hx'.of
theorem entry_dict_update_loop : entryFor table "dict.update.loop" = some Builtin.«dict.update.loop» := entryFor_of_tree (by kernel_rfl)
theorem plain_dict_update_loop : plainId "dict.update.loop" = true := by decide +kernel
section
variable {prog : Program} {w : World} {A : Around} {R : Result → Shared → Prop} {I : Addr} {fp wr : List Addr} {G : Array GenState → Array GenState → Prop} {n : Nat} {P : Nat → Value → Prop} {St : Nat → Shared → Prop} {K : Type} [DecidableEq K] {knd : KeyKind prog w K}
theorem merged_len (more : List (K × Value)) : ∀ kvs : List (K × Value), (merged kvs more).length ≤ kvs.length + more.length := by
  induction more with
  | nil => intro kvs; exact Nat.le_refl _
  | cons x r ih =>
    intro kvs
    have h := ih (stored kvs x.1 x.2)
    have h2 : (stored kvs x.1 x.2).length ≤ kvs.length + 1 := by
      unfold stored
      split
      · rw [List.length_map]; omega
      · rw [List.length_append]; exact Nat.le_refl _
    show (merged (stored kvs x.1 x.2) r).length ≤ _
    rw [List.length_cons]
    omega
theorem codeAny_dict_update_loop (W : WalksS prog w A.in1 I fp wr G n P St) (D : Addr) (hDf : D ∉ fp) (ks : List (K × Value)) (hn : ks.length = n) (As : Nat → Addr) (hAs : ∀ j, j < n → As j ≠ D ∧ As j ∉ wr)
    (hval : ∀ i v, P i v → v = .ref (As i)) (hsz : n ≤ sizeLine) :
    ∀ (k i : Nat) (z : Int) (s : Shared), n - i = k → i ≤ n → St i s → s.heap.DictOf knd D (merged [] (ks.take i)) →
      (∀ j (hj : j < n), ∃ ky, IsTup s.heap (As j) #[ky, (ks[j]'(hn ▸ hj)).2] ∧ knd.is (ks[j]'(hn ▸ hj)).1 ky = true) →
      (∀ s', Moved (D :: wr) G s s' → s'.heap.DictOf knd D (merged [] ks) → R (.ok (.ret .none)) s') →
      codeAny (model prog w) A (.builtin "dict.update.loop" ⟨[.ref D, .ref I, rawInt z, .none], []⟩) R s := by
  have hDw : D ∉ wr := fun h => hDf (W.sub _ h)
  have hsub : ∀ b ∈ wr, b ∈ D :: wr := fun b hb => List.mem_cons_of_mem _ hb
  intro k
  induction k with
  | zero =>
    intro i z s hk hi hst hS hT hR
    have hin : i = n := by omega
    subst hin
    refine codeAny_builtin entry_dict_update_loop ?_
    rw [Around.under_plainId plain_dict_update_loop _]
    show wpAny _ A.in1 (pyNext (.ref I) >>= _) _ _ s
    refine wpAny_bind (W.done s _ _ hst fun s' hm => ?_)
    show wpAny _ A.in1 (Builtin.Dict.addKeywords D [] >>= fun _ => ret Value.none) _ _ s'
    refine wpAny_bind (wpAny_pure (wpAny_pure (hR s' (hm.mono hsub) ?_)))
    rw [List.take_of_length_le (by omega)] at hS
    obtain ⟨o, es, ep, ho, rest⟩ := hS
    exact ⟨o, es, ep, hm.heap D _ hDw ho, rest⟩
  | succ k ih =>
    intro i z s hk hi hst hS hT hR
    have hlt : i < n := by omega
    refine codeAny_builtin entry_dict_update_loop ?_
    rw [Around.under_plainId plain_dict_update_loop _]
    show wpAny _ A.in1 (pyNext (.ref I) >>= _) _ _ s
    refine wpAny_bind (W.item i s _ _ hlt hst fun v s' hP hst' hm => ?_)
    have ev := hval i v hP
    subst ev
    obtain ⟨ky, ht, hky⟩ := hT i hlt
    have ht' : IsTup s'.heap (As i) #[ky, (ks[i]'(hn ▸ hlt)).2] := by
      obtain ⟨o, ho, r⟩ := ht
      exact ⟨o, hm.heap _ _ (hAs i hlt).2 ho, r⟩
    have hS' : s'.heap.DictOf knd D (merged [] (ks.take i)) := by
      obtain ⟨o, es, ep, ho, rest⟩ := hS
      exact ⟨o, es, ep, hm.heap D _ hDw ho, rest⟩
    show wpAny _ A.in1 (holding [Value.ref (As i)] _ >>= _) _ _ s'
    refine wpAny_bind (wpAny_holding ?_)
    obtain ⟨ot, hot, hct, nt, hdt⟩ := id ht'
    refine wpAny_bind ?_
    have hpair : wpAny (model prog w) A.in1 (Builtin.Dict.pairItems (Value.ref (As i))) (fun p s2 => p = [ky, (ks[i]'(hn ▸ hlt)).2] ∧ s2 = s') (fun e s' => False) s' := by
      unfold Builtin.Dict.pairItems
      refine wpAny_bind (wpAny_typeOf (T := "tuple") ⟨ot, hot, hct⟩ ?_)
      rw [if_pos (by decide)]
      exact wpAny_bind (wpAny_seqItems hot hdt (wpAny_pure ⟨rfl, rfl⟩))
    refine wpAny_tryCatch (wpAny_mono hpair (fun p s2 h2 => ?_) fun _ _ z => z.elim)
    obtain ⟨rfl, rfl⟩ := h2
    have hle : (merged [] (ks.take i)).length ≤ sizeLine := by
      have h1 := merged_len (ks.take i) []
      rw [List.length_take] at h1
      simp only [List.length_nil] at h1
      omega
    refine wpAny_holding (wpAny_dictSet_pairs hky hS' (fun h' hd' hs => ?_) hle)
    have hd2 : h'.DictOf knd D (merged [] (ks.take (i + 1))) := by
      rw [merged_take_succ [] ks i _ (List.getElem?_eq_getElem (hn ▸ hlt))]
      exact hd'
    refine wpAny_pure ⟨plainId_quiet plain_dict_update_loop _, ih (i + 1) (z + 1) _ (by omega) hlt (W.frame _ s2 _ _ hst' (Nat.le_succ _) fun b hb o e => ?_) hd2 (fun j hj => ?_) fun s'' hm'' hS'' => ?_⟩
    · rw [hs.2 b (fun h : b = D => hDf (by rw [← h]; exact hb))]; exact e
    · obtain ⟨kj, ⟨o, ho, r⟩, hkj⟩ := hT j hj
      refine ⟨kj, ⟨o, ?_, r⟩, hkj⟩
      have hnd := (hAs j hj).1
      show h'.get? (As j) = some o
      rw [hs.2 _ hnd]
      exact hm.heap _ _ (hAs j hj).2 ho
    · refine hR s'' (Moved.trans W.gtrans ((hm.mono hsub).then_heap (Nat.le_succ _) fun b o hb e => ?_) hm'') hS''
      rw [hs.2 b (fun h : b = D => hb (by rw [h]; exact List.mem_cons_self))]; exact e
end
section
variable {prog : Program} {w : World} {A : Around} {E : Value → Shared → Prop} {s : Shared} {K : Type} [DecidableEq K] {knd : KeyKind prog w K}
theorem call_dict_list {l : Addr} {items : Array Value} {ks : List (K × Value)} {As : Nat → Addr} {Q : Value → Shared → Prop} (hh : A.handled = none) (hl : PlainL s.heap l items) (hn : ks.length = items.size) (hsz : items.size ≤ sizeLine)
    (hval : ∀ (i : Nat) (v : Value), items[i]? = some v → v = .ref (As i)) (ht : ∀ j (hj : j < items.size), ∃ ky, IsTup s.heap (As j) #[ky, (ks[j]'(hn ▸ hj)).2] ∧ knd.is (ks[j]'(hn ▸ hj)).1 ky = true)
    (h : ∀ h' tk, h'.DictOf knd s.heap.objs.size (merged [] ks) → (∀ b o, s.heap.get? b = some o → h'.get? b = some o) → Q (.ref s.heap.objs.size) { s with heap := h', toks := tk }) :
    wpAny (model prog w) A (call (.type "dict") [.ref l]) Q E s := by
  refine callType_codes (Q₁ := fun obj s₁ => obj = .ref s.heap.objs.size ∧ s₁ = { s with heap := s.heap.push { cls := .type "dict", data := .dict #[] } }) F.kt_called_dict (F.kt_typeCall_dict_1 _) F.entry_dict_init (kt_code_dict_new _ ⟨rfl, rfl⟩) ?_
  rintro obj s₁ ⟨rfl, rfl⟩
  have hnew : (s.heap.push { cls := .type "dict", data := .dict #[] }).DictOf knd s.heap.objs.size [] := Heap.DictOf.new s.heap
  obtain ⟨ol, nl, hol, hcl, hdl, hdat⟩ := hl
  have hll : l < s.heap.objs.size := Heap.lt_size hol
  have hol' : (s.heap.push { cls := .type "dict", data := .dict #[] }).get? l = some ol := Heap.get?_push_of_some _ hol
  refine ⟨hnew.typeIs, F.args_dict_init_2 _ _, ?_⟩
  unfold Builtin.«dict.__init__»
  refine wpAny_bind ?_
  unfold Builtin.Dict.selfAndRest
  refine wpAny_bind (wpAny_notOrdered_dict hnew.typeIs ?_)
  show wpAny _ _ (pure (s.heap.objs.size, [Value.ref l])) _ _ _
  refine wpAny_pure ?_
  show wpAny _ _ (Builtin.Dict.updateFrom "dict.__init__" s.heap.objs.size (.ref l) [] .none) _ _ _
  unfold Builtin.Dict.updateFrom
  refine wpAny_bind (wpAny_typeOf (T := "list") ⟨ol, hol', hcl⟩ ?_)
  rw [if_pos (by decide)]
  refine wpAny_bind (getAttr?_keys_list hol' hcl hdat hdl (by simp [hh]) fun h1 tk e hx => ?_)
  rw [if_pos (by decide)]
  have kp : ∀ b o, (s.heap.push { cls := .type "dict", data := .dict #[] }).get? b = some o → h1.get? b = some o := fun b o z => hx.keeps b o z
  have hl1 : h1.IsList l items := ⟨ol, kp _ _ hol', hcl, nl, hdat⟩
  refine wpAny_bind (wpAny_rule (wpAny_bind (wpAny_pyIter_list hl1 ?_)))
  have hDD : s.heap.objs.size < h1.objs.size := by
    obtain ⟨o, es, ep, ho, _⟩ := hnew
    exact Heap.lt_size (kp _ _ ho)
  have hl1s : l < h1.objs.size := Nat.lt_trans hll hDD
  have hneI : l ≠ h1.objs.size := Nat.ne_of_lt hl1s
  have hDf : s.heap.objs.size ∉ [h1.objs.size, l] := by
    simp only [List.mem_cons, List.not_mem_nil, or_false, not_or]
    exact ⟨Nat.ne_of_lt hDD, Nat.ne_of_gt hll⟩
  refine wpAny_pure ⟨plainId_quiet plain_dict_update_loop _, ?_⟩
  have hh3 : A.in1.in1.handled = none := by simp [hh]
  have k2 : ∀ b o, s.heap.get? b = some o → (h1.push { cls := .type "list_iterator", data := .fields #[.ref l, .int 0 0] }).get? b = some o := fun b o z => Heap.get?_push_of_some _ (kp b o (Heap.get?_push_of_some _ z))
  refine codeAny_dict_update_loop (A := A.in1) (knd := knd) ((Walks.list hh3 _ l hneI items).toS) s.heap.objs.size hDf ks hn As (fun j hj => ?_) hval hsz (items.size - 0) 0 0 _ (by omega) (Nat.zero_le _)
    ⟨⟨_, Heap.get?_push_size _ rfl, rfl, rfl⟩, (hl1.push _)⟩ ?hS0 (fun j hj => ?_) ?hR
  · obtain ⟨ky, ⟨o, ho, _⟩, _⟩ := ht j hj
    have := Heap.lt_size ho
    refine ⟨Nat.ne_of_lt this, ?_⟩
    simp only [List.mem_cons, List.not_mem_nil, or_false]
    exact Nat.ne_of_lt (Nat.lt_trans this hDD)
  case hS0 =>
    obtain ⟨o, es, ep, ho, r⟩ := hnew
    exact ⟨o, es, ep, Heap.get?_push_of_some _ (kp _ _ ho), r⟩
  · obtain ⟨ky, ⟨o, ho, r⟩, hk⟩ := ht j hj
    exact ⟨ky, ⟨o, k2 _ _ ho, r⟩, hk⟩
  case hR =>
    intro s' hm hS'
    obtain ⟨h', g', d', tk', os'⟩ := s'
    have eg : g' = s.gens := hm.gens
    have ed : d' = s.drawn := hm.drawn
    have eo : os' = s.os := hm.os
    subst eg; subst ed; subst eo
    refine ⟨rfl, h h' tk' hS' fun b o e => ?_⟩
    have hb := Heap.lt_size e
    exact hm.heap b o (by simp only [List.mem_cons, List.not_mem_nil, or_false, not_or]; exact ⟨Nat.ne_of_lt hb, Nat.ne_of_lt (Nat.lt_trans hb hDD)⟩) (k2 b o e)
end
/-- dict() of a list of pairs -/
def rDictP (K : PySem.W.Frag) : List V → Hp → VK → Prop := fun xs H Q => ∃ (a : Addr) (ts : List (Addr × Key × V)), xs = [.ref a] ∧ SqL K H a (ts.map fun t => V.ref t.1) ∧ (∀ t ∈ ts, H t.1 = some (.tup [kV t.2.1, t.2.2])) ∧ ts.length ≤ 1000 ∧
  ∀ D, H D = none → Q (.ref D) (upd H D (.dK (mergeK [] (ts.map (·.2)))))
theorem pairs_are {X : Cx} {pins : List (Addr × Obj)} {σ : St} {H : Hp} {s : Shared} (I : Inv X pins σ H s) : ∀ (ts : List (Addr × Key × V)), (∀ t ∈ ts, H t.1 = some (.tup [kV t.2.1, t.2.2])) →
    ∃ ks : List (Key × Value), KV (ts.map (·.2)) ks ∧ ∀ (j : Nat) (t : Addr × Key × V) (kv : Key × Value), ts[j]? = some t → ks[j]? = some kv → ∃ ky, IsTup s.heap t.1 #[ky, kv.2] ∧ (mixKind X.prog X.w).is kv.1 ky = true
  | [], _ => ⟨[], .nil, fun j t kv h _ => by simp at h⟩
  | t :: ts, h => by
    obtain ⟨ks, r, hk⟩ := pairs_are I ts fun x hx => h x (List.mem_cons_of_mem _ hx)
    obtain ⟨its, rv, ht, _⟩ := I.tuple (SqT.of (K := X.K) (h t (by simp)))
    obtain ⟨ky, u, rfl, rk, ru⟩ : ∃ ky u, its = [ky, u] ∧ RelV (kV t.2.1) ky ∧ RelV t.2.2 u := by
      cases rv with
      | cons r1 r2 =>
        cases r2 with
        | cons r3 r4 =>
          cases r4
          exact ⟨_, _, rfl, r1, r3⟩
    refine ⟨(t.2.1, u) :: ks, .cons ⟨rfl, ru⟩ r, fun j x kv h1 h2 => ?_⟩
    cases j with
    | zero =>
      simp only [List.getElem?_cons_zero, Option.some.injEq] at h1 h2
      subst h1; subst h2
      exact ⟨ky, ht, kV_is rk⟩
    | succ j => exact hk j x kv (by simpa using h1) (by simpa using h2)
theorem call_dictP {X : Cx} (hc : X.calm = true) : CallR X (.type "dict") (rDictP X.K) := by
  intro pins s σ H xs us Q I r h
  obtain ⟨a, ts, rfl, hS, hT, hn, q⟩ := h
  obtain ⟨u, rfl, ru⟩ := vals1 r
  cases ru
  obtain ⟨its, rv, pl, _⟩ := I.list hS
  obtain ⟨ks, rk, hks⟩ := pairs_are I ts hT
  have h1 : ks.length = ts.length := by have := rk.length; simpa using this.symm
  have h2 : its.length = ts.length := by have := rv.length; simpa using this.symm
  have hat : ∀ (i : Nat) (v : Value), its.toArray[i]? = some v → v = .ref ((ts[i]?.map (·.1)).getD 0) := fun i v hv => by
    have hv' : its[i]? = some v := by simpa using hv
    have hi : i < ts.length := by rw [← h2]; exact (List.getElem?_eq_some_iff.mp hv').1
    have := rv.get (i := i) (x := .ref ts[i].1) (by rw [List.getElem?_map, List.getElem?_eq_getElem hi]; rfl)
    obtain ⟨u, hu, ru⟩ := this
    rw [hv'] at hu
    cases hu
    cases ru
    rw [List.getElem?_eq_getElem hi]; rfl
  refine call_dict_list (knd := mixKind X.prog X.w) (ks := ks) (As := fun i => (ts[i]?.map (·.1)).getD 0) (I.ok.hd hc) pl (by rw [List.size_toArray]; omega) (by rw [List.size_toArray, h2]; exact Nat.le_of_lt (small1000 hn)) hat (fun j hj => ?_) fun h' tk hd hk => ?_
  · have hj' : j < ts.length := by rw [List.size_toArray] at hj; omega
    have := hks j ts[j] (ks[j]'(by omega)) (List.getElem?_eq_getElem hj') (List.getElem?_eq_getElem _)
    rw [List.getElem?_eq_getElem hj']
    exact this
  · have lz : (mergeK [] (ts.map (·.2))).length ≤ sizeLine := by
      have := length_mergeK (ts.map (·.2)) []
      rw [List.length_map, List.length_nil] at this
      exact Nat.le_of_lt (small1000 (by omega))
    refine ⟨.ref s.heap.objs.size, _, I.laid (a := s.heap.objs.size) (o := .dK (mergeK [] (ts.map (·.2)))) (t' := tk) hk (Nat.le_refl _) ?_, rfl, q _ (I.hok.fresh (Nat.le_refl _))⟩
    exact dk_new lz (beq_eq_false_iff_ne.mpr fun z => Nat.lt_irrefl _ (z ▸ I.big)) (rk.merge .nil) hd
theorem dictP {X : Cx} (K : PySem.W.Frag) (hc : X.calm = true := by rfl) (h : X.K = K := by rfl) : CallR X (.type "dict") (rDictP K) := by subst h; exact call_dictP hc
/-- in, not in, d[k], d[k] = v, len, of dicts -/
def rInG : R2 := fun y x H Q => ∃ a o, x = .ref a ∧ DGet H a y o ∧ Q (.bl o.isSome) H
def rNotInG : R2 := fun y x H Q => ∃ a o, x = .ref a ∧ DGet H a y o ∧ Q (.bl (!o.isSome)) H
def rIxG : R2 := fun x y H Q => ∃ a v, x = .ref a ∧ DGet H a y (some v) ∧ Q v H
section
variable {X : Cx} {k : Nat}
theorem inG (hr : Room k X.A) : OpR X (compareOp .In) rInG := by
  intro pins s σ H x y v u Q I rx ry h
  obtain ⟨a, o, rfl, g, q⟩ := h
  cases ry
  exact d_in (hu_of hr) I g rx fun s3 I3 => ⟨.bl o.isSome, H, I3, rfl, q⟩
theorem notInG (hr : Room k X.A) : OpR X (compareOp .NotIn) rNotInG := by
  intro pins s σ H x y v u Q I rx ry h
  obtain ⟨a, o, rfl, g, q⟩ := h
  cases ry
  exact d_notIn (hu_of hr) I g rx fun s3 I3 => ⟨.bl (!o.isSome), H, I3, rfl, q⟩
def rSetG : TSet := fun o i v H Q => ∃ a H', o = .ref a ∧ DPut H a i v H' ∧ Q H'
theorem setG (hr : Room k X.A) : PSet X rSetG := by
  intro pins s σ H o i v ov iv u Q I ro ri rv h
  obtain ⟨a, H', rfl, g, q⟩ := h
  cases ro
  exact d_setItem (hu_of hr) I g ri rv fun s4 I4 => ⟨H', I4, q⟩
theorem subTail_of {prog : Program} {w : World} {A : Around} {E : Value → Shared → Prop} {s : Shared} {value slice : Expr} {o i : Value} {T id : String} {Q : Value → Shared → Prop} (hT : s.TypeIs o T)
    (hl : typeLookup (.type T) "__getitem__" = pure (some (.builtin id))) (hs : subscripted slice false o i = operate [o, i] (getItem o i)) (h : wpAny (model prog w) A (getItem o i) Q E s) :
    wpAny (model prog w) A (subscriptTail value slice o i) Q E s := by
  unfold subscriptTail
  refine wpAny_bind ?_
  rw [getitemInPython_of_ne hT.not_modules]
  refine wpAny_bind (wpAny_specialOf hT hl ?_)
  have fin : wpAny (model prog w) A (subscripted slice false o i) (fun r s₃ => wpAny (model prog w) A (letTemporaryGo value o r >>= fun _ => pure r) Q E s₃) E s := by
    rw [hs]
    exact wpAny_operating (wpAny_mono h (fun r s₃ h₃ => wpAny_bind (wpAny_letTemporaryGo (wpAny_pure h₃))) fun _ _ x => x)
  first
    | exact wpAny_pure (wpAny_bind fin)
    | exact wpAny_bind (wpAny_pure (wpAny_bind fin))
    | exact wpAny_bind fin
theorem ixG (hr : Room k X.A) : IxR X rIxG := by
  intro value slice pins s σ H x y v u Q I rx ry h hs
  obtain ⟨a, z, rfl, g, q⟩ := h
  cases rx
  exact subTail_of (dict_typeIs I g) PySem.F.slot_dict_getitem.lookup hs (d_getItem (hu_of hr) I g ry fun w' s' I' rw' => ⟨z, H, I', rw', q⟩)
/-- likened with an empty dict -/
def rEqE (neg : Bool) : R2 := fun x y H Q => ∃ a b kvs, x = .ref a ∧ y = .ref b ∧ H a = some (.dK kvs) ∧ H b = some (.dK []) ∧ Q (.bl (if neg then !kvs.isEmpty else kvs.isEmpty)) H
theorem eqE (hr : Room k X.A) : OpR X (compareOp .Eq) (rEqE false) := by
  intro pins s σ H x y v u Q I rx ry h
  obtain ⟨a, b, kvs, rfl, rfl, ha, hb, q⟩ := h
  cases rx
  cases ry
  obtain ⟨_, sa, va, ra, da⟩ := dk_of I.hok ha
  obtain ⟨_, sb, vb, rb, db⟩ := dk_of I.hok hb
  cases rb
  have hl := ra.length
  refine PySem.W.keq_eq (r := true) sa sb da db (Nat.lt_of_le_of_lt (Nat.le_succ _) (hu_of hr)) (fun e => ?_) ⟨.bl _, H, I, rfl, ?_⟩
  · have : va = [] := List.length_eq_zero_iff.mp e
    rw [this]; exact .nil
  · have : (va.length == ([] : List (Key × Value)).length && true) = kvs.isEmpty := by
      rw [← hl]
      cases kvs <;> rfl
    rw [this]; exact q
theorem notInQ (K : PySem.W.Frag) (h : X.K = K := by rfl) : OpR X (compareOp .NotIn) (rIn K true) := by subst h; exact op_notIn_seq
theorem disp1 {X : Cx} {pos : Pos} {kx vx : Expr} {tk tv : TE} (hk : PE X kx tk) (hv : PE X vx tv) : PE X (.Dict [some kx] [vx] pos) (tDisp [(tk, tv)]) := pe_disp (pps_cons hk hv pps_nil) rfl rfl (by intro z; cases z) (by show 1 ≤ 15; decide)
theorem lenG : CallR X (.builtin "len") (fun xs H Q => ∃ a kvs, xs = [V.ref a] ∧ H a = some (.dK kvs) ∧ Q (.int kvs.length) H) := call_lenD
theorem srtG (hc : X.calm = true := by rfl) : CallR X (.builtin "sorted") rSortedD := call_sortedD hc
end
end L2

set_option Elab.async false
set_option linter.all false
set_option maxRecDepth 100000
/-! MY LAYER, 41: data of any form, each part of it tracked; walks in one word -/
namespace L2
open PySem PySem.Spec PyProof.Rows
mutual
inductive DH (H : Hp) : V → PyData → Prop where
  | non : DH H .non .none
  | bl (b : Bool) : DH H (.bl b) (.bool b)
  | int (i : Int) : DH H (.int i) (.int i)
  | str (s : Str) : DH H (.str s) (.str s)
  | lst {a : Addr} {xs : List V} {ds : List PyData} : H a = some (.lst xs) → DHs H xs ds → DH H (.ref a) (.list ds)
  | tup {a : Addr} {xs : List V} {ds : List PyData} : H a = some (.tup xs) → DHs H xs ds → DH H (.ref a) (.tuple ds)
inductive DHs (H : Hp) : List V → List PyData → Prop where
  | nil : DHs H [] []
  | cons {x : V} {d : PyData} {xs : List V} {ds : List PyData} : DH H x d → DHs H xs ds → DHs H (x :: xs) (d :: ds)
end
mutual
theorem DH.mono {H H' : Hp} (s : Same H H') : ∀ {x : V} {d : PyData}, DH H x d → DH H' x d
  | _, _, .non => .non
  | _, _, .bl b => .bl b
  | _, _, .int i => .int i
  | _, _, .str z => .str z
  | _, _, .lst h hs => .lst (s _ _ h) (DHs.mono s hs)
  | _, _, .tup h hs => .tup (s _ _ h) (DHs.mono s hs)
theorem DHs.mono {H H' : Hp} (s : Same H H') : ∀ {xs : List V} {ds : List PyData}, DHs H xs ds → DHs H' xs ds
  | _, _, .nil => .nil
  | _, _, .cons h hs => .cons (DH.mono s h) (DHs.mono s hs)
end
mutual
theorem DH.dv {K : PySem.W.Frag} {H : Hp} : ∀ {x : V} {d : PyData}, DH H x d → DV K H x d
  | _, _, .non => .non
  | _, _, .bl b => .bl b
  | _, _, .int i => .int i
  | _, _, .str z => .str z
  | _, _, .lst h hs => .lst (SqL.of h) (DHs.dv hs)
  | _, _, .tup h hs => .tup (SqT.of h) (DHs.dv hs)
theorem DHs.dv {K : PySem.W.Frag} {H : Hp} : ∀ {xs : List V} {ds : List PyData}, DHs H xs ds → DVs K H xs ds
  | _, _, .nil => .nil
  | _, _, .cons h hs => .cons (DH.dv h) (DHs.dv hs)
end
theorem DHs.length {H : Hp} : ∀ {xs : List V} {ds : List PyData}, DHs H xs ds → xs.length = ds.length
  | _, _, .nil => rfl
  | _, _, .cons _ hs => by rw [List.length_cons, List.length_cons, hs.length]
theorem DHs.get {H : Hp} : ∀ {xs : List V} {ds : List PyData}, DHs H xs ds → ∀ {i : Nat} {x : V}, xs[i]? = some x → ∃ d, ds[i]? = some d ∧ DH H x d
  | _, _, .nil, i, x, h => by simp at h
  | _, _, .cons hd _, 0, x, h => by
    simp only [List.getElem?_cons_zero, Option.some.injEq] at h
    subst h
    exact ⟨_, rfl, hd⟩
  | _, _, .cons _ hs, i + 1, x, h => by
    obtain ⟨d, e, hd⟩ := hs.get (i := i) (by simpa using h)
    exact ⟨d, by simpa using e, hd⟩
/-- the name of a datum's type -/
def tyD : PyData → String
  | .none => "NoneType"
  | .bool _ => "bool"
  | .int _ => "int"
  | .str _ => "str"
  | .tuple _ => "tuple"
  | _ => "list"
def isIntD : PyData → Bool
  | .int _ => true
  | _ => false
def isBoolD : PyData → Bool
  | .bool _ => true
  | _ => false
def isLstD : PyData → Bool
  | .list _ => true
  | _ => false
def isTupD : PyData → Bool
  | .tuple _ => true
  | _ => false
def isStrD : PyData → Bool
  | .str _ => true
  | _ => false
theorem DH.ty {K : PySem.W.Frag} {H : Hp} {x : V} {d : PyData} (h : DH H x d) : TyOf K H x (.type (tyD d)) := by
  cases h with
  | non => exact .non
  | bl b => exact .bl b
  | int i => exact .int i
  | str z => exact .str z
  | lst h _ => exact .lst h
  | tup h _ => exact .tup h
section
open PySem.W
theorem DH.kL {H : Hp} {x : V} {d : PyData} (h : DH H x d) (K : Frag) : kitOne K (.type (tyD d)) (.type "list") = some (isLstD d) := by cases h <;> (unfold kitOne kitCls; rfl)
theorem DH.kT {H : Hp} {x : V} {d : PyData} (h : DH H x d) (K : Frag) : kitOne K (.type (tyD d)) (.type "tuple") = some (isTupD d) := by cases h <;> (unfold kitOne kitCls; rfl)
theorem DH.kI {H : Hp} {x : V} {d : PyData} (h : DH H x d) (K : Frag) : kitOne K (.type (tyD d)) (.type "int") = some (isIntD d || isBoolD d) := by cases h <;> (unfold kitOne kitCls; rfl)
theorem DH.kB {H : Hp} {x : V} {d : PyData} (h : DH H x d) (K : Frag) : kitOne K (.type (tyD d)) (.type "bool") = some (isBoolD d) := by cases h <;> (unfold kitOne kitCls; rfl)
end
theorem DH.lst_inv {H : Hp} {x : V} {d : PyData} (h : DH H x d) (e : isLstD d = true) : ∃ a xs ds, x = .ref a ∧ d = .list ds ∧ H a = some (.lst xs) ∧ DHs H xs ds := by
  cases h with
  | lst h hs => exact ⟨_, _, _, rfl, rfl, h, hs⟩
  | non => cases e
  | bl b => cases e
  | int i => cases e
  | str z => cases e
  | tup h hs => cases e
theorem DH.int_inv {H : Hp} {x : V} {d : PyData} (h : DH H x d) (e : isIntD d = true) : ∃ i, x = .int i ∧ d = .int i := by
  cases h with
  | int i => exact ⟨_, rfl, rfl⟩
  | non => cases e
  | bl b => cases e
  | tup h hs => cases e
  | str z => cases e
  | lst h hs => cases e
/-! ### walks of comprehensions and dict comprehensions -/
theorem comp_lF {K : PySem.W.Frag} {a : Addr} {xs : List V} {k : Nat} {D : Addr} {σ : L2.St} {H1 : Hp} {g : TG} {tc : TT} {te : TE} {Q : VK} (Pv : Nat → List V → L2.St → Hp → Prop) (h0 : Pv 0 [] (σ ++ List.replicate k none) (upd H1 D (.lst [])))
    (hl : ∀ i ys σ H, Pv i ys σ H → SqL K H a xs)
    (hs : ∀ i x ys σ H, xs[i]? = some x → Pv i ys σ H → g x σ H fun σ4 H4 => tc σ4 H4 fun b H5 => if b = true then te σ4 H5 fun y H6 => H6 D = some (.lst ys) ∧ ys.length < sizeLine ∧ Pv (i + 1) (ys ++ [y]) σ4 (upd H6 D (.lst (ys ++ [y]))) else Pv (i + 1) ys σ4 H5)
    (hd : ∀ ys σ H, Pv xs.length ys σ H → Q (.ref D) H) : CompGo (Itl K a) D k σ H1 g tc te Q := by
  refine ⟨fun i m ys σ H => m = xs.length - i ∧ i ≤ xs.length ∧ Pv i ys σ H, ⟨xs.length, by simp, Nat.zero_le _, h0⟩, ?_⟩
  rintro i m ys σ H ⟨rfl, hi, p⟩
  have q1 := hl i ys σ H p
  by_cases hlt : i < xs.length
  · refine .inr ⟨⟨xs, xs[i], q1, List.getElem?_eq_getElem hlt⟩, Pv (i + 1), fun ys' σ' H' p' => ⟨xs.length - (i + 1), by omega, rfl, hlt, p'⟩, fun x H' y => ?_⟩
    obtain ⟨rfl, e⟩ := y
    exact hs i x ys σ _ (e xs q1) p
  · have e : i = xs.length := by omega
    exact .inl ⟨⟨xs, q1, by omega⟩, hd ys σ H (e ▸ p)⟩
theorem dict_lF {K : PySem.W.Frag} {a : Addr} {xs : List V} {k : Nat} {D : Addr} {σ : L2.St} {H1 : Hp} {g : TG} {tc : TT} {tk te : TE} {Q : VK} (Pv : Nat → List (Key × V) → L2.St → Hp → Prop) (h0 : Pv 0 [] (σ ++ List.replicate k none) (upd H1 D (.dK [])))
    (hl : ∀ i ys σ H, Pv i ys σ H → SqL K H a xs)
    (hs : ∀ i x ys σ H, xs[i]? = some x → Pv i ys σ H → g x σ H fun σ4 H4 => tc σ4 H4 fun b H5 => if b = true then tk σ4 H5 fun kv H6 => te σ4 H6 fun y H7 => ∃ k : Key, kv = kV k ∧ H7 D = some (.dK ys) ∧ ys.length < sizeLine ∧ Pv (i + 1) (putK ys k y) σ4 (upd H7 D (.dK (putK ys k y))) else Pv (i + 1) ys σ4 H5)
    (hd : ∀ ys σ H, Pv xs.length ys σ H → Q (.ref D) H) : DictGoK (Itl K a) D k σ H1 g tc tk te Q := by
  refine ⟨fun i m ys σ H => m = xs.length - i ∧ i ≤ xs.length ∧ Pv i ys σ H, ⟨xs.length, by simp, Nat.zero_le _, h0⟩, ?_⟩
  rintro i m ys σ H ⟨rfl, hi, p⟩
  have q1 := hl i ys σ H p
  by_cases hlt : i < xs.length
  · refine .inr ⟨⟨xs, xs[i], q1, List.getElem?_eq_getElem hlt⟩, Pv (i + 1), fun ys' σ' H' p' => ⟨xs.length - (i + 1), by omega, rfl, hlt, p'⟩, fun x H' y => ?_⟩
    obtain ⟨rfl, e⟩ := y
    exact hs i x ys σ _ (e xs q1) p
  · have e : i = xs.length := by omega
    exact .inl ⟨⟨xs, q1, by omega⟩, hd ys σ H (e ▸ p)⟩
/-! ### lists without repeats, lists of ints -/
theorem perm_of_sub : ∀ {a b : List Int}, a.Nodup → (∀ x ∈ a, x ∈ b) → b.length ≤ a.length → a.Perm b
  | [], b, _, _, l => by
    have : b = [] := List.length_eq_zero_iff.mp (by simpa using l)
    rw [this]
  | x :: r, b, na, h, l => by
    obtain ⟨n1, n2⟩ := List.nodup_cons.mp na
    have hx := h x (by simp)
    have hp := List.perm_cons_erase hx
    refine (List.Perm.cons x (perm_of_sub n2 (fun y hy => ?_) ?_)).trans hp.symm
    · have nyx : y ≠ x := fun e => n1 (by rw [← e]; exact hy)
      exact (List.mem_erase_of_ne nyx).mpr (h y (List.mem_cons_of_mem _ hy))
    · rw [List.length_erase_of_mem hx]
      simp only [List.length_cons] at l
      omega
theorem eqv_intsD (ns ms : List Int) : PyData.eqv (.list (ns.map PyData.int)) (.list (ms.map PyData.int)) = decide (ns = ms) := by
  rw [← SeqAt.same_eq_eqv _ _ (by simp only [SeqAt.noMix]; exact PySem.W.noMix_ints ns ms)]
  simp only [PySem.Spec.same]
  exact PySem.W.same_ints ns ms
theorem sorted_one {a b : List Int} (ha : a.Pairwise (· ≤ ·)) (hb : b.Pairwise (· ≤ ·)) (p : a.Perm b) : a = b := List.Perm.eq_of_pairwise (fun x y _ _ h1 h2 => by omega) ha hb p
/-! ### dicts by lists of keys that don't repeat -/
theorem mergeK_nd : ∀ (more acc : List (Key × V)), ((acc ++ more).map (·.1)).Nodup → mergeK acc more = acc ++ more
  | [], acc, _ => by show acc = _; rw [List.append_nil]
  | x :: r, acc, h => by
    have hx : valV acc x.1 = none := by
      cases hv : valV acc x.1 with
      | none => rfl
      | some v =>
        have := valV_in hv
        rw [List.map_append, List.map_cons] at h
        have := (List.nodup_append.mp h).2.2 x.1 this x.1 (by simp)
        exact absurd rfl this
    show mergeK (putK acc x.1 x.2) r = _
    rw [putK_new _ hx, mergeK_nd r (acc ++ [x]) (by rw [List.append_assoc]; exact h), List.append_assoc]; rfl
theorem valV_mem {kvs : List (Key × V)} {k : Key} {v : V} (h : valV kvs k = some v) : (k, v) ∈ kvs := by
  unfold valV at h
  obtain ⟨p, hp, rfl⟩ := Option.map_eq_some_iff.mp h
  have h1 := List.find?_some hp
  have h2 := List.mem_of_find?_eq_some hp
  have : p.1 = k := by simpa using h1
  rw [← this]; exact h2
theorem valV_of_mem {kvs : List (Key × V)} (hn : (kvs.map (·.1)).Nodup) {k : Key} {v : V} (h : (k, v) ∈ kvs) : valV kvs k = some v := by
  induction kvs with
  | nil => cases h
  | cons p r ih =>
    obtain ⟨n1, n2⟩ := List.nodup_cons.mp (by simpa using hn : (p.1 :: r.map (·.1)).Nodup)
    rcases List.mem_cons.mp h with rfl | h
    · exact valV_pos rfl
    · rw [valV_neg fun e => n1 (e ▸ List.mem_map_of_mem (f := (·.1)) h)]
      exact ih n2 h
/-! ### x[:n] of texts -/
theorem fm_take {α : Type} (xs : List α) : ∀ n, n ≤ xs.length → ((List.range n).filterMap fun i => xs[i]?) = xs.take n
  | 0, _ => by simp
  | n + 1, h => by
    have hn : n < xs.length := by omega
    rw [List.range_succ, List.filterMap_append, fm_take xs n (by omega), List.take_add_one]
    simp [List.getElem?_eq_getElem hn]
theorem slice_to (x : Str) (n : Nat) : (Txt.slice x none (some (n : Int))).cps.toList = x.cps.toList.take n := by
  have hl : x.cps.toList.length = x.length := by simp [Str.length]
  have e : Builtin.Str.strSliceIndices none (some (n : Int)) 1 x.length = List.range (min n x.length) := by
    unfold Builtin.Str.strSliceIndices sliceRange
    have hn : ¬ ((n : Int) < 0) := by omega
    simp only [show (1 : Int) > 0 by decide, if_true, hn, if_false]
    have e1 : max 0 (min (n : Int) (x.length : Int)) = ((min n x.length : Nat) : Int) := by omega
    rw [e1]
    split
    · have e2 : ((((min n x.length : Nat) : Int) - 0 + 1 - 1) / 1).toNat = min n x.length := by rw [Int.ediv_one]; omega
      rw [e2]
      have : ((fun (k : Nat) => ((0 : Int) + 1 * (k : Int)).toNat)) = id := by funext k; simp
      rw [this, List.map_id]
    · have e2 : min n x.length = 0 := by omega
      rw [e2]; rfl
  unfold Txt.slice
  rw [e]
  split
  · rename_i h
    have : min n x.length = x.length := by simpa using h
    rw [List.take_of_length_le (by omega)]
  · show List.filterMap _ _ = _
    have := fm_take x.cps.toList (min n x.length) (by omega)
    simp only [Array.getElem?_toList] at this
    rw [this]
    rcases Nat.le_total n x.length with h | h
    · rw [Nat.min_eq_left h]
    · rw [Nat.min_eq_right h, List.take_of_length_le (by omega), List.take_of_length_le (by omega)]
end L2

set_option Elab.async false
set_option linter.all false
set_option maxRecDepth 100000
/-! MY LAYER, 42: `a or b` of any values, `not` of any value, tests of any value -/
namespace L2
open PySem PySem.Spec PyProof.Rows
def tOrK (K : PySem.W.Frag) (ta tb : TE) : TE := fun σ H Q => ta σ H fun x H1 => ∃ k, TruV K x H1 k ∧ if k = true then Q x H1 else tb σ H1 Q
end L2

set_option Elab.async false
set_option linter.all false
set_option maxRecDepth 100000
/-! MY LAYER, 43: comprehensions and walks over a dict's keys, values, pairs, while it stands frozen -/
namespace L2
open PySem PySem.Spec PyProof.Rows
end L2

set_option Elab.async false
set_option linter.all false
set_option maxRecDepth 100000
/-! MY LAYER, 44: a heap without one address: what stands apart from it -/
namespace L2
open PySem PySem.Spec PyProof.Rows
def off (p : Addr) (H : Hp) : Hp := fun b => if b = p then none else H b
end L2

set_option Elab.async false
set_option linter.all false
set_option maxRecDepth 100000
set_option maxHeartbeats 2000000

namespace My
open PySem L2 PyProof.Rows
def hdS : List Stmt → Stmt
  | a :: _ => a
  | [] => .Pass ⟨0, 0, 0, 0⟩
abbrev body0 : List Stmt := PySem.Challenge.pw_mergetree_k65_whole_papers_spoilt_at_eac.main.body
abbrev st_is_number : Stmt := hdS (List.tail body0)
abbrev st_is_triple : Stmt := hdS (List.tail (List.tail body0))
abbrev st_alike : Stmt := hdS (List.tail (List.tail (List.tail (List.tail body0))))
abbrev st_liken_from : Stmt := hdS (List.tail (List.tail (List.tail (List.tail (List.tail body0)))))
abbrev st_alike_from : Stmt := hdS (List.tail (List.tail (List.tail (List.tail (List.tail (List.tail body0))))))
abbrev st_order_at : Stmt := hdS (List.tail (List.tail (List.tail (List.tail (List.tail (List.tail (List.tail body0)))))))
abbrev st_shows_next : Stmt := hdS (List.tail (List.tail (List.tail (List.tail (List.tail (List.tail (List.tail (List.tail (List.tail body0)))))))))
abbrev st_shows_greater : Stmt := hdS (List.tail (List.tail (List.tail (List.tail (List.tail (List.tail (List.tail (List.tail (List.tail (List.tail body0))))))))))
abbrev st_next_of : Stmt := hdS (List.tail (List.tail (List.tail (List.tail (List.tail (List.tail (List.tail (List.tail (List.tail (List.tail (List.tail (List.tail body0))))))))))))
abbrev st_paper_of : Stmt := hdS (List.tail (List.tail (List.tail (List.tail (List.tail (List.tail (List.tail (List.tail (List.tail (List.tail (List.tail (List.tail (List.tail body0)))))))))))))
abbrev st_l_mix : Stmt := hdS (List.tail (List.tail (List.tail (List.tail (List.tail (List.tail (List.tail (List.tail (List.tail (List.tail (List.tail (List.tail (List.tail (List.tail (List.tail body0)))))))))))))))
abbrev st_l_left : Stmt := hdS (List.tail (List.tail (List.tail (List.tail (List.tail (List.tail (List.tail (List.tail (List.tail (List.tail (List.tail (List.tail (List.tail (List.tail (List.tail (List.tail body0))))))))))))))))
abbrev st_l_pick : Stmt := hdS (List.tail (List.tail (List.tail (List.tail (List.tail (List.tail (List.tail (List.tail (List.tail (List.tail (List.tail (List.tail (List.tail (List.tail (List.tail (List.tail (List.tail body0)))))))))))))))))
abbrev st_l_stems : Stmt := hdS (List.tail (List.tail (List.tail (List.tail (List.tail (List.tail (List.tail (List.tail (List.tail (List.tail (List.tail (List.tail (List.tail (List.tail (List.tail (List.tail (List.tail (List.tail body0))))))))))))))))))
abbrev st_l_key : Stmt := hdS (List.tail (List.tail (List.tail (List.tail (List.tail (List.tail (List.tail (List.tail (List.tail (List.tail (List.tail (List.tail (List.tail (List.tail (List.tail (List.tail (List.tail (List.tail (List.tail body0)))))))))))))))))))
abbrev st_l_alike : Stmt := hdS (List.tail (List.tail (List.tail (List.tail (List.tail (List.tail (List.tail (List.tail (List.tail (List.tail (List.tail (List.tail (List.tail (List.tail (List.tail (List.tail (List.tail (List.tail (List.tail (List.tail body0))))))))))))))))))))
abbrev st_l_heads : Stmt := hdS (List.tail (List.tail (List.tail (List.tail (List.tail (List.tail (List.tail (List.tail (List.tail (List.tail (List.tail (List.tail (List.tail (List.tail (List.tail (List.tail (List.tail (List.tail (List.tail (List.tail (List.tail body0)))))))))))))))))))))
abbrev st_l_least : Stmt := hdS (List.tail (List.tail (List.tail (List.tail (List.tail (List.tail (List.tail (List.tail (List.tail (List.tail (List.tail (List.tail (List.tail (List.tail (List.tail (List.tail (List.tail (List.tail (List.tail (List.tail (List.tail (List.tail body0))))))))))))))))))))))
abbrev st_l_lost : Stmt := hdS (List.tail (List.tail (List.tail (List.tail (List.tail (List.tail (List.tail (List.tail (List.tail (List.tail (List.tail (List.tail (List.tail (List.tail (List.tail (List.tail (List.tail (List.tail (List.tail (List.tail (List.tail (List.tail (List.tail body0)))))))))))))))))))))))
abbrev st_l_is_number : Stmt := hdS (List.tail (List.tail (List.tail (List.tail (List.tail (List.tail (List.tail (List.tail (List.tail (List.tail (List.tail (List.tail (List.tail (List.tail (List.tail (List.tail (List.tail (List.tail (List.tail (List.tail (List.tail (List.tail (List.tail (List.tail body0))))))))))))))))))))))))
abbrev st_l_is_entry : Stmt := hdS (List.tail (List.tail (List.tail (List.tail (List.tail (List.tail (List.tail (List.tail (List.tail (List.tail (List.tail (List.tail (List.tail (List.tail (List.tail (List.tail (List.tail (List.tail (List.tail (List.tail (List.tail (List.tail (List.tail (List.tail (List.tail body0)))))))))))))))))))))))))
abbrev st_l_shown : Stmt := hdS (List.tail (List.tail (List.tail (List.tail (List.tail (List.tail (List.tail (List.tail (List.tail (List.tail (List.tail (List.tail (List.tail (List.tail (List.tail (List.tail (List.tail (List.tail (List.tail (List.tail (List.tail (List.tail (List.tail (List.tail (List.tail (List.tail body0))))))))))))))))))))))))))
abbrev st_l_papers : Stmt := hdS (List.tail (List.tail (List.tail (List.tail (List.tail (List.tail (List.tail (List.tail (List.tail (List.tail (List.tail (List.tail (List.tail (List.tail (List.tail (List.tail (List.tail (List.tail (List.tail (List.tail (List.tail (List.tail (List.tail (List.tail (List.tail (List.tail (List.tail body0)))))))))))))))))))))))))))
abbrev st_l_spoilt : Stmt := hdS (List.tail (List.tail (List.tail (List.tail (List.tail (List.tail (List.tail (List.tail (List.tail (List.tail (List.tail (List.tail (List.tail (List.tail (List.tail (List.tail (List.tail (List.tail (List.tail (List.tail (List.tail (List.tail (List.tail (List.tail (List.tail (List.tail (List.tail (List.tail body0))))))))))))))))))))))))))))
abbrev st_l_right : Stmt := hdS (List.tail (List.tail (List.tail (List.tail (List.tail (List.tail (List.tail (List.tail (List.tail (List.tail (List.tail (List.tail (List.tail (List.tail (List.tail (List.tail (List.tail (List.tail (List.tail (List.tail (List.tail (List.tail (List.tail (List.tail (List.tail (List.tail (List.tail (List.tail (List.tail body0)))))))))))))))))))))))))))))
abbrev st_law : Stmt := hdS (List.tail (List.tail (List.tail (List.tail (List.tail (List.tail (List.tail (List.tail (List.tail (List.tail (List.tail (List.tail (List.tail (List.tail (List.tail (List.tail (List.tail (List.tail (List.tail (List.tail (List.tail (List.tail (List.tail (List.tail (List.tail (List.tail (List.tail (List.tail (List.tail (List.tail body0))))))))))))))))))))))))))))))
theorem sc_l_mix : FnScope ["_law_cell", "_law_k", "_law_m"] ["_law_cell", "_law_k"] (defScope st_l_mix) := ⟨rfl, rfl, rfl, by decide +kernel, rfl, by decide +kernel, by decide +kernel⟩
theorem sc_l_left : FnScope ["_law_script", "_law_k", "_law_cell"] ["_law_script", "_law_k"] (defScope st_l_left) := ⟨rfl, rfl, rfl, by decide +kernel, rfl, by decide +kernel, by decide +kernel⟩
theorem sc_l_pick : FnScope ["_law_left_here", "_law_many", "_law_digit"] ["_law_left_here", "_law_many"] (defScope st_l_pick) := ⟨rfl, rfl, rfl, by decide +kernel, rfl, by decide +kernel, by decide +kernel⟩
theorem sc_l_stems : FnScope ["_law_left_here", "_law_some"] ["_law_left_here"] (defScope st_l_stems) := ⟨rfl, rfl, rfl, by decide +kernel, rfl, by decide +kernel, by decide +kernel⟩
theorem sc_l_key : FnScope ["_law_left_here", "_law_stems_here", "_law_tail"] ["_law_left_here", "_law_stems_here"] (defScope st_l_key) := ⟨rfl, rfl, rfl, by decide +kernel, rfl, by decide +kernel, by decide +kernel⟩
theorem sc_alike_from : FnScope ["one", "other", "far", "at"] ["one", "other", "far"] (defScope st_alike_from) := ⟨rfl, rfl, rfl, by decide +kernel, rfl, by decide +kernel, by decide +kernel⟩
theorem sc_alike : FnScope ["one", "other"] ["one", "other"] (defScope st_alike) := ⟨rfl, rfl, rfl, by decide +kernel, rfl, by decide +kernel, by decide +kernel⟩
theorem sc_l_alike : FnScope ["_law_one", "_law_other", "_law_far"] ["_law_one", "_law_other"] (defScope st_l_alike) := ⟨rfl, rfl, rfl, by decide +kernel, rfl, by decide +kernel, by decide +kernel⟩
theorem sc_next_of : FnScope ["heads", "least"] ["heads"] (defScope st_next_of) := ⟨rfl, rfl, rfl, by decide +kernel, rfl, by decide +kernel, by decide +kernel⟩
theorem sc_l_heads : FnScope ["_law_left_here", "_law_stems_here", "_law_many", "_law_found", "_law_n", "_law_k", "_law_key_here"] ["_law_left_here"] (defScope st_l_heads) := ⟨rfl, rfl, rfl, by decide +kernel, rfl, by decide +kernel, by decide +kernel⟩
theorem sc_l_least : FnScope ["_law_heads_here", "_law_some"] ["_law_heads_here"] (defScope st_l_least) := ⟨rfl, rfl, rfl, by decide +kernel, rfl, by decide +kernel, by decide +kernel⟩
theorem sc_order_at : FnScope ["one", "other", "at"] ["one", "other", "at"] (defScope st_order_at) := ⟨rfl, rfl, rfl, by decide +kernel, rfl, by decide +kernel, by decide +kernel⟩
theorem sc_liken_from : FnScope ["one", "other", "far", "at"] ["one", "other", "far"] (defScope st_liken_from) := ⟨rfl, rfl, rfl, by decide +kernel, rfl, by decide +kernel, by decide +kernel⟩
theorem sc_is_number : FnScope ["thing"] ["thing"] (defScope st_is_number) := ⟨rfl, rfl, rfl, by decide +kernel, rfl, by decide +kernel, by decide +kernel⟩
theorem sc_is_triple : FnScope ["thing"] ["thing"] (defScope st_is_triple) := ⟨rfl, rfl, rfl, by decide +kernel, rfl, by decide +kernel, by decide +kernel⟩
theorem sc_shows_greater : FnScope ["keyed", "ahead", "entry", "row", "winner", "far", "order", "alike_far", "seen"] ["keyed", "ahead", "entry"] (defScope st_shows_greater) := ⟨rfl, rfl, rfl, by decide +kernel, rfl, by decide +kernel, by decide +kernel⟩
theorem sc_shows_next : FnScope ["heads", "n", "thing", "keyed", "ahead", "entry"] ["heads", "n", "thing"] (defScope st_shows_next) := ⟨rfl, rfl, rfl, by decide +kernel, rfl, by decide +kernel, by decide +kernel⟩
theorem sc_l_lost : FnScope ["_law_key_here", "_law_winner_key", "_law_far", "_law_is_behind"] ["_law_key_here", "_law_winner_key", "_law_far", "_law_is_behind"] (defScope st_l_lost) := ⟨rfl, rfl, rfl, by decide +kernel, rfl, by decide +kernel, by decide +kernel⟩
theorem sc_l_is_number : FnScope ["_law_thing"] ["_law_thing"] (defScope st_l_is_number) := ⟨rfl, rfl, rfl, by decide +kernel, rfl, by decide +kernel, by decide +kernel⟩
theorem sc_l_is_entry : FnScope ["_law_thing"] ["_law_thing"] (defScope st_l_is_entry) := ⟨rfl, rfl, rfl, by decide +kernel, rfl, by decide +kernel, by decide +kernel⟩
theorem sc_l_shown : FnScope ["_law_heads_here", "_law_n", "_law_thing", "_law_keys", "_law_at", "_law_row", "_law_winner", "_law_far"] ["_law_heads_here", "_law_n", "_law_thing"] (defScope st_l_shown) := ⟨rfl, rfl, rfl, by decide +kernel, rfl, by decide +kernel, by decide +kernel⟩
theorem sc_paper_of : FnScope ["heads", "n", "keys"] ["heads"] (defScope st_paper_of) := ⟨rfl, rfl, rfl, by decide +kernel, rfl, by decide +kernel, by decide +kernel⟩
theorem sc_l_papers : FnScope ["_law_heads_here", "_law_order", "_law_chain", "_law_one", "_law_other", "_law_star"] ["_law_heads_here"] (defScope st_l_papers) := ⟨rfl, rfl, rfl, by decide +kernel, rfl, by decide +kernel, by decide +kernel⟩
theorem sc_l_spoilt : FnScope ["_law_heads_here", "_law_paper", "_law_at", "_law_row", "_law_winner", "_law_far", "_law_rest", "_law_found", "_law_number", "_law_other"] ["_law_heads_here", "_law_paper", "_law_at"] (defScope st_l_spoilt) := ⟨rfl, rfl, rfl, by decide +kernel, rfl, by decide +kernel, by decide +kernel⟩
theorem sc_l_right : FnScope ["_law_heads_here", "_law_n", "_law_paper", "_law_at", "_law_some", "_law_thing", "_law_found"] ["_law_heads_here", "_law_n", "_law_paper"] (defScope st_l_right) := ⟨rfl, rfl, rfl, by decide +kernel, rfl, by decide +kernel, by decide +kernel⟩
theorem sc_law : FnScope ["_law_script", "_law_k", "_law_left_here", "_law_heads_here", "_law_n", "_law_paper", "_law_other"] ["_law_script"] (defScope st_law) := ⟨rfl, rfl, rfl, by decide +kernel, rfl, by decide +kernel, by decide +kernel⟩
def scope_0 : Scope := { kind := .function, names := [(Str.ofString ".0", .«local»), (Str.ofString "_law_k", .«local»), (Str.ofString "_law_pick", .globalImplicit), (Str.ofString "_law_left_here", .free), (Str.ofString "_law_some", .free)], isGenerator := false, isCoroutine := false, more := [] }
theorem cs_0 : CompSc ["_law_left_here", "_law_some"] ["_law_left_here", "_law_some", "_law_k"] (defScope st_l_stems) scope_0 := ⟨rfl, rfl, by decide +kernel, by decide +kernel, by decide +kernel, by decide, by decide +kernel, by decide +kernel⟩
def scope_0r : Scope := { kind := .function, names := [(Str.ofString ".0", .«local»), (Str.ofString "_law_k", .«local»), (Str.ofString "_law_pick", .globalImplicit), (Str.ofString "_law_left_here", .cell), (Str.ofString "_law_some", .cell)], isGenerator := false, isCoroutine := false, more := [] }
def scope_1 : Scope := { kind := .function, names := [(Str.ofString ".0", .«local»), (Str.ofString "_law_k", .«local»), (Str.ofString "_law_pick", .globalImplicit), (Str.ofString "_law_left_here", .free)], isGenerator := false, isCoroutine := false, more := [] }
theorem cs_1 : CompSc ["_law_left_here", "_law_stems_here", "_law_tail"] ["_law_left_here", "_law_stems_here", "_law_tail", "_law_k"] (defScope st_l_key) scope_1 := ⟨rfl, rfl, by decide +kernel, by decide +kernel, by decide +kernel, by decide, by decide +kernel, by decide +kernel⟩
def scope_1r : Scope := { kind := .function, names := [(Str.ofString ".0", .«local»), (Str.ofString "_law_k", .«local»), (Str.ofString "_law_pick", .globalImplicit), (Str.ofString "_law_left_here", .cell)], isGenerator := false, isCoroutine := false, more := [] }
def scope_2 : Scope := { kind := .function, names := [(Str.ofString ".0", .«local»), (Str.ofString "row", .«local»), (Str.ofString "key", .«local»)], isGenerator := false, isCoroutine := false, more := [] }
theorem cs_2 : CompSc ["heads", "least"] ["heads", "least", "row", "key"] (defScope st_next_of) scope_2 := ⟨rfl, rfl, by decide +kernel, by decide +kernel, by decide +kernel, by decide, by decide +kernel, by decide +kernel⟩
def scope_2r : Scope := { kind := .function, names := [(Str.ofString ".0", .«local»), (Str.ofString "row", .«local»), (Str.ofString "key", .«local»)], isGenerator := false, isCoroutine := false, more := [] }
def scope_3 : Scope := { kind := .function, names := [(Str.ofString ".0", .«local»), (Str.ofString "_law_n", .«local»), (Str.ofString "_law_key_here", .«local»)], isGenerator := false, isCoroutine := false, more := [] }
theorem cs_3 : CompSc ["_law_heads_here", "_law_some"] ["_law_heads_here", "_law_some", "_law_n", "_law_key_here"] (defScope st_l_least) scope_3 := ⟨rfl, rfl, by decide +kernel, by decide +kernel, by decide +kernel, by decide, by decide +kernel, by decide +kernel⟩
def scope_3r : Scope := { kind := .function, names := [(Str.ofString ".0", .«local»), (Str.ofString "_law_n", .«local»), (Str.ofString "_law_key_here", .«local»)], isGenerator := false, isCoroutine := false, more := [] }
def scope_4 : Scope := { kind := .function, names := [(Str.ofString ".0", .«local»), (Str.ofString "row", .«local»), (Str.ofString "key", .«local»)], isGenerator := false, isCoroutine := false, more := [] }
theorem cs_4 : CompSc ["heads", "n", "thing", "keyed", "ahead", "entry"] ["heads", "n", "thing", "keyed", "ahead", "entry", "row", "key"] (defScope st_shows_next) scope_4 := ⟨rfl, rfl, by decide +kernel, by decide +kernel, by decide +kernel, by decide, by decide +kernel, by decide +kernel⟩
def scope_4r : Scope := { kind := .function, names := [(Str.ofString ".0", .«local»), (Str.ofString "row", .«local»), (Str.ofString "key", .«local»)], isGenerator := false, isCoroutine := false, more := [] }
def scope_5 : Scope := { kind := .function, names := [(Str.ofString ".0", .«local»), (Str.ofString "_law_part", .«local»), (Str.ofString "_law_is_number", .globalImplicit)], isGenerator := false, isCoroutine := false, more := [] }
theorem cs_5 : CompSc ["_law_thing"] ["_law_thing", "_law_part"] (defScope st_l_is_entry) scope_5 := ⟨rfl, rfl, by decide +kernel, by decide +kernel, by decide +kernel, by decide, by decide +kernel, by decide +kernel⟩
def scope_5r : Scope := { kind := .function, names := [(Str.ofString ".0", .«local»), (Str.ofString "_law_part", .«local»), (Str.ofString "_law_is_number", .globalImplicit)], isGenerator := false, isCoroutine := false, more := [] }
def scope_6 : Scope := { kind := .function, names := [(Str.ofString ".0", .«local»), (Str.ofString "_law_one", .«local»), (Str.ofString "_law_is_entry", .globalImplicit)], isGenerator := false, isCoroutine := false, more := [] }
theorem cs_6 : CompSc ["_law_heads_here", "_law_n", "_law_thing", "_law_keys", "_law_at", "_law_row", "_law_winner", "_law_far"] ["_law_heads_here", "_law_n", "_law_thing", "_law_keys", "_law_at", "_law_row", "_law_winner", "_law_far", "_law_one"] (defScope st_l_shown) scope_6 := ⟨rfl, rfl, by decide +kernel, by decide +kernel, by decide +kernel, by decide, by decide +kernel, by decide +kernel⟩
def scope_6r : Scope := { kind := .function, names := [(Str.ofString ".0", .«local»), (Str.ofString "_law_one", .«local»), (Str.ofString "_law_is_entry", .globalImplicit)], isGenerator := false, isCoroutine := false, more := [] }
def scope_7 : Scope := { kind := .function, names := [(Str.ofString ".0", .«local»), (Str.ofString "_law_row", .«local»), (Str.ofString "_law_key_here", .«local»)], isGenerator := false, isCoroutine := false, more := [] }
theorem cs_7 : CompSc ["_law_heads_here", "_law_n", "_law_thing", "_law_keys", "_law_at", "_law_row", "_law_winner", "_law_far"] ["_law_heads_here", "_law_n", "_law_thing", "_law_keys", "_law_at", "?_law_row", "_law_winner", "_law_far", "_law_row", "_law_key_here"] (defScope st_l_shown) scope_7 := ⟨rfl, rfl, by decide +kernel, by decide +kernel, by decide +kernel, by decide, by decide +kernel, by decide +kernel⟩
def scope_7r : Scope := { kind := .function, names := [(Str.ofString ".0", .«local»), (Str.ofString "_law_row", .«local»), (Str.ofString "_law_key_here", .«local»)], isGenerator := false, isCoroutine := false, more := [] }
def scope_8 : Scope := { kind := .function, names := [(Str.ofString ".0", .«local»), (Str.ofString "_law_one", .«local»)], isGenerator := false, isCoroutine := false, more := [] }
theorem cs_8 : CompSc ["_law_heads_here", "_law_n", "_law_thing", "_law_keys", "_law_at", "_law_row", "_law_winner", "_law_far"] ["_law_heads_here", "_law_n", "_law_thing", "_law_keys", "_law_at", "_law_row", "_law_winner", "_law_far", "_law_one"] (defScope st_l_shown) scope_8 := ⟨rfl, rfl, by decide +kernel, by decide +kernel, by decide +kernel, by decide, by decide +kernel, by decide +kernel⟩
def scope_8r : Scope := { kind := .function, names := [(Str.ofString ".0", .«local»), (Str.ofString "_law_one", .«local»)], isGenerator := false, isCoroutine := false, more := [] }
def scope_9 : Scope := { kind := .function, names := [(Str.ofString ".0", .«local»), (Str.ofString "_law_row", .«local»), (Str.ofString "_law_n", .free)], isGenerator := false, isCoroutine := false, more := [] }
theorem cs_9 : CompSc ["_law_heads_here", "_law_n", "_law_thing", "_law_keys", "_law_at", "_law_row", "_law_winner", "_law_far"] ["_law_heads_here", "_law_n", "_law_thing", "_law_keys", "_law_at", "?_law_row", "_law_winner", "_law_far", "_law_row"] (defScope st_l_shown) scope_9 := ⟨rfl, rfl, by decide +kernel, by decide +kernel, by decide +kernel, by decide, by decide +kernel, by decide +kernel⟩
def scope_9r : Scope := { kind := .function, names := [(Str.ofString ".0", .«local»), (Str.ofString "_law_row", .«local»), (Str.ofString "_law_n", .cell)], isGenerator := false, isCoroutine := false, more := [] }
def scope_10 : Scope := { kind := .function, names := [(Str.ofString ".0", .«local»), (Str.ofString "_law_one", .«local»)], isGenerator := false, isCoroutine := false, more := [] }
theorem cs_10 : CompSc ["_law_heads_here", "_law_n", "_law_thing", "_law_keys", "_law_at", "_law_row", "_law_winner", "_law_far"] ["_law_heads_here", "_law_n", "_law_thing", "_law_keys", "_law_at", "_law_row", "_law_winner", "_law_far", "_law_one"] (defScope st_l_shown) scope_10 := ⟨rfl, rfl, by decide +kernel, by decide +kernel, by decide +kernel, by decide, by decide +kernel, by decide +kernel⟩
def scope_10r : Scope := { kind := .function, names := [(Str.ofString ".0", .«local»), (Str.ofString "_law_one", .«local»)], isGenerator := false, isCoroutine := false, more := [] }
def scope_11 : Scope := { kind := .function, names := [(Str.ofString ".0", .«local»), (Str.ofString "row", .«local»), (Str.ofString "key", .«local»)], isGenerator := false, isCoroutine := false, more := [] }
theorem cs_11 : CompSc ["heads", "n", "keys"] ["heads", "n", "keys", "row", "key"] (defScope st_paper_of) scope_11 := ⟨rfl, rfl, by decide +kernel, by decide +kernel, by decide +kernel, by decide, by decide +kernel, by decide +kernel⟩
def scope_11r : Scope := { kind := .function, names := [(Str.ofString ".0", .«local»), (Str.ofString "row", .«local»), (Str.ofString "key", .«local»)], isGenerator := false, isCoroutine := false, more := [] }
def scope_12 : Scope := { kind := .function, names := [(Str.ofString ".0", .«local»), (Str.ofString "row", .«local»), (Str.ofString "key", .«local»), (Str.ofString "alike", .globalImplicit), (Str.ofString "keys", .free), (Str.ofString "n", .free)], isGenerator := false, isCoroutine := false, more := [] }
theorem cs_12 : CompSc ["heads", "n", "keys"] ["heads", "n", "keys", "row", "key"] (defScope st_paper_of) scope_12 := ⟨rfl, rfl, by decide +kernel, by decide +kernel, by decide +kernel, by decide, by decide +kernel, by decide +kernel⟩
def scope_12r : Scope := { kind := .function, names := [(Str.ofString ".0", .«local»), (Str.ofString "row", .«local»), (Str.ofString "key", .«local»), (Str.ofString "alike", .globalImplicit), (Str.ofString "keys", .cell), (Str.ofString "n", .cell)], isGenerator := false, isCoroutine := false, more := [] }
def scope_13 : Scope := { kind := .function, names := [(Str.ofString ".0", .«local»), (Str.ofString "_law_row", .«local»), (Str.ofString "_law_key_here", .«local»)], isGenerator := false, isCoroutine := false, more := [] }
theorem cs_13 : CompSc ["_law_heads_here", "_law_order", "_law_chain", "_law_one", "_law_other", "_law_star"] ["_law_heads_here", "_law_order", "_law_chain", "_law_one", "_law_other", "_law_star", "_law_row", "_law_key_here"] (defScope st_l_papers) scope_13 := ⟨rfl, rfl, by decide +kernel, by decide +kernel, by decide +kernel, by decide, by decide +kernel, by decide +kernel⟩
def scope_13r : Scope := { kind := .function, names := [(Str.ofString ".0", .«local»), (Str.ofString "_law_row", .«local»), (Str.ofString "_law_key_here", .«local»)], isGenerator := false, isCoroutine := false, more := [] }
def scope_14 : Scope := { kind := .function, names := [(Str.ofString ".0", .«local»), (Str.ofString "_law_key_here", .«local»), (Str.ofString "_law_row", .«local»), (Str.ofString "_law_alike", .globalImplicit), (Str.ofString "_law_order", .free)], isGenerator := false, isCoroutine := false, more := [] }
theorem cs_14 : CompSc ["_law_heads_here", "_law_order", "_law_chain", "_law_one", "_law_other", "_law_star"] ["_law_heads_here", "_law_order", "_law_chain", "_law_one", "_law_other", "_law_star", "_law_key_here", "_law_row"] (defScope st_l_papers) scope_14 := ⟨rfl, rfl, by decide +kernel, by decide +kernel, by decide +kernel, by decide, by decide +kernel, by decide +kernel⟩
def scope_14r : Scope := { kind := .function, names := [(Str.ofString ".0", .«local»), (Str.ofString "_law_key_here", .«local»), (Str.ofString "_law_row", .«local»), (Str.ofString "_law_alike", .globalImplicit), (Str.ofString "_law_order", .cell)], isGenerator := false, isCoroutine := false, more := [] }
def scope_15 : Scope := { kind := .function, names := [(Str.ofString ".0", .«local»), (Str.ofString "_law_n", .«local»), (Str.ofString "_law_key_here", .«local»), (Str.ofString "_law_winner", .free)], isGenerator := false, isCoroutine := false, more := [] }
theorem cs_15 : CompSc ["_law_heads_here", "_law_paper", "_law_at", "_law_row", "_law_winner", "_law_far", "_law_rest", "_law_found", "_law_number", "_law_other"] ["_law_heads_here", "_law_paper", "_law_at", "_law_row", "_law_winner", "_law_far", "_law_rest", "_law_found", "_law_number", "_law_other", "_law_n", "_law_key_here"] (defScope st_l_spoilt) scope_15 := ⟨rfl, rfl, by decide +kernel, by decide +kernel, by decide +kernel, by decide, by decide +kernel, by decide +kernel⟩
def scope_15r : Scope := { kind := .function, names := [(Str.ofString ".0", .«local»), (Str.ofString "_law_n", .«local»), (Str.ofString "_law_key_here", .«local»), (Str.ofString "_law_winner", .cell)], isGenerator := false, isCoroutine := false, more := [] }
def scope_16 : Scope := { kind := .function, names := [(Str.ofString ".0", .«local»), (Str.ofString "_law_row", .«local»), (Str.ofString "_law_key_here", .«local»)], isGenerator := false, isCoroutine := false, more := [] }
theorem cs_16 : CompSc ["_law_script", "_law_k", "_law_left_here", "_law_heads_here", "_law_n", "_law_paper", "_law_other"] ["_law_script", "_law_k", "_law_left_here", "_law_heads_here", "_law_n", "_law_paper", "_law_other", "_law_row", "_law_key_here"] (defScope st_law) scope_16 := ⟨rfl, rfl, by decide +kernel, by decide +kernel, by decide +kernel, by decide, by decide +kernel, by decide +kernel⟩
def scope_16r : Scope := { kind := .function, names := [(Str.ofString ".0", .«local»), (Str.ofString "_law_row", .«local»), (Str.ofString "_law_key_here", .«local»)], isGenerator := false, isCoroutine := false, more := [] }
def scope_17 : Scope := { kind := .function, names := [(Str.ofString ".0", .«local»), (Str.ofString "_law_row", .«local»), (Str.ofString "_law_key_here", .«local»), (Str.ofString "_law_n", .free)], isGenerator := false, isCoroutine := false, more := [] }
theorem cs_17 : CompSc ["_law_script", "_law_k", "_law_left_here", "_law_heads_here", "_law_n", "_law_paper", "_law_other"] ["_law_script", "_law_k", "_law_left_here", "_law_heads_here", "_law_n", "_law_paper", "_law_other", "_law_row", "_law_key_here"] (defScope st_law) scope_17 := ⟨rfl, rfl, by decide +kernel, by decide +kernel, by decide +kernel, by decide, by decide +kernel, by decide +kernel⟩
def scope_17r : Scope := { kind := .function, names := [(Str.ofString ".0", .«local»), (Str.ofString "_law_row", .«local»), (Str.ofString "_law_key_here", .«local»), (Str.ofString "_law_n", .cell)], isGenerator := false, isCoroutine := false, more := [] }
structure Bt (mg : Str → Option Value) : Prop where
  n_abs : mg "abs" = none
  n_all : mg "all" = none
  n_bool : mg "bool" = none
  n_dict : mg "dict" = none
  n_enumerate : mg "enumerate" = none
  n_int : mg "int" = none
  n_isinstance : mg "isinstance" = none
  n_len : mg "len" = none
  n_list : mg "list" = none
  n_max : mg "max" = none
  n_min : mg "min" = none
  n_range : mg "range" = none
  n_sorted : mg "sorted" = none
  n_tuple : mg "tuple" = none
  n_zip : mg "zip" = none
structure Tops (K : PySem.W.Frag) (mg : Str → Option Value) : Prop where
  b : Bt mg
  t_is_number : Top K mg "is_number" st_is_number ["thing"]
  t_is_triple : Top K mg "is_triple" st_is_triple ["thing"]
  t_alike : Top K mg "alike" st_alike ["one", "other"]
  t_liken_from : Top K mg "liken_from" st_liken_from ["one", "other", "far"]
  t_alike_from : Top K mg "alike_from" st_alike_from ["one", "other", "far"]
  t_order_at : Top K mg "order_at" st_order_at ["one", "other", "at"]
  t_shows_next : Top K mg "shows_next" st_shows_next ["heads", "n", "thing"]
  t_shows_greater : Top K mg "shows_greater" st_shows_greater ["keyed", "ahead", "entry"]
  t_next_of : Top K mg "next_of" st_next_of ["heads"]
  t_paper_of : Top K mg "paper_of" st_paper_of ["heads"]
  t_l_mix : Top K mg "_law_mix" st_l_mix ["_law_cell", "_law_k"]
  t_l_left : Top K mg "_law_left" st_l_left ["_law_script", "_law_k"]
  t_l_pick : Top K mg "_law_pick" st_l_pick ["_law_left_here", "_law_many"]
  t_l_stems : Top K mg "_law_stems" st_l_stems ["_law_left_here"]
  t_l_key : Top K mg "_law_key" st_l_key ["_law_left_here", "_law_stems_here"]
  t_l_alike : Top K mg "_law_alike" st_l_alike ["_law_one", "_law_other"]
  t_l_heads : Top K mg "_law_heads" st_l_heads ["_law_left_here"]
  t_l_least : Top K mg "_law_least" st_l_least ["_law_heads_here"]
  t_l_lost : Top K mg "_law_lost" st_l_lost ["_law_key_here", "_law_winner_key", "_law_far", "_law_is_behind"]
  t_l_is_number : Top K mg "_law_is_number" st_l_is_number ["_law_thing"]
  t_l_is_entry : Top K mg "_law_is_entry" st_l_is_entry ["_law_thing"]
  t_l_shown : Top K mg "_law_shown" st_l_shown ["_law_heads_here", "_law_n", "_law_thing"]
  t_l_papers : Top K mg "_law_papers" st_l_papers ["_law_heads_here"]
  t_l_spoilt : Top K mg "_law_spoilt" st_l_spoilt ["_law_heads_here", "_law_paper", "_law_at"]
  t_l_right : Top K mg "_law_right" st_l_right ["_law_heads_here", "_law_n", "_law_paper"]

def Left (H : Hp) (p : Addr) (c : Int) : Prop := ∃ a b : Int, H p = some (.lst [.int a, .int b, .int c]) ∧ 0 ≤ c
def But (p : Addr) (H H' : Hp) : Prop := ∀ b o, H b = some o → b ≠ p → H' b = some o
theorem But.trans {p : Addr} {H H1 H2 : Hp} (a : But p H H1) (b : But p H1 H2) : But p H H2 := fun c o h n => b c o (a c o h n) n
theorem But.same {p : Addr} {H H1 : Hp} (a : Same H H1) : But p H H1 := fun c o h _ => a c o h
theorem same_new {H : Hp} {p : Addr} (h : H p = none) (o : HO) : Same H (upd H p o) := fun b u q => by rw [upd_ne (ne_of_none q h)]; exact q
theorem small {n : Nat} (h : n ≤ 1000) : n ≤ sizeLine := Nat.le_of_lt (small1000 h)

def spMix : Sp := fun vs H Q _ => ∃ a k : Int, vs = [.int a, .int k] ∧ -(2 ^ 62) < k ∧ k < 2 ^ 62 ∧ ∀ r : Int, 0 ≤ r → r < 2000000000 → Q (.int r) H
def spLeft (K : PySem.W.Frag) : Sp := fun vs H Q _ => ∃ (a : Addr) (ns : List Int) (k : Int), vs = [.ref a, .int k] ∧ SqL K H a (ns.map V.int) ∧ ns.length ≤ 63 ∧ 0 ≤ k ∧ k < 100 ∧
  ∀ (p : Addr) (H' : Hp), H p = none → Left H' p 0 → Same H H' → Q (.ref p) H'
def spPick : Sp := fun vs H Q _ => ∃ (p : Addr) (c m : Int), vs = [.ref p, .int m] ∧ Left H p c ∧ c < 2 ^ 60 ∧ 0 < m ∧ m < 1000000 ∧
  ∀ (r : Int) (H' : Hp), 0 ≤ r → r < m → Left H' p (c + 1) → But p H H' → Q (.int r) H'
theorem at_int {ns : List Int} {k : Int} (h0 : 0 ≤ k) (h : k < (ns.length : Int)) : ∃ v : Int, atI (ns.map V.int) k = some (.int v) := by
  have hk : k.toNat < ns.length := by omega
  have ek : k = ((k.toNat : Nat) : Int) := by omega
  have q : atI (ns.map V.int) ((k.toNat : Nat) : Int) = some (.int ns[k.toNat]) := atI_nat (by rw [List.getElem?_map, List.getElem?_eq_getElem hk] <;> rfl)
  rw [← ek] at q
  exact ⟨_, q⟩
theorem at_str {ss : List Str} {k : Int} (h0 : 0 ≤ k) (h : k < (ss.length : Int)) : ∃ s ∈ ss, atI (ss.map V.str) k = some (.str s) := by
  have hk : k.toNat < ss.length := by omega
  have ek : k = ((k.toNat : Nat) : Int) := by omega
  have q : atI (ss.map V.str) ((k.toNat : Nat) : Int) = some (.str ss[k.toNat]) := atI_nat (by rw [List.getElem?_map, List.getElem?_eq_getElem hk] <;> rfl)
  rw [← ek] at q
  exact ⟨_, List.getElem_mem hk, q⟩
theorem bit01 (b : Bool) : -(2 ^ 64) < (if b = true then (1 : Int) else 0) ∧ (if b = true then (1 : Int) else 0) < 2 ^ 64 := by cases b <;> decide
theorem at_code {z : Str} {k : Int} (h0 : 0 ≤ k) (h : k < (z.length : Int)) : ∃ c : Nat, z.cps.toList[k.toNat]? = some c ∧ atI z.cps.toList k = some c := by
  have hl : z.cps.toList.length = z.length := by simp [Str.length]
  have hk : k.toNat < z.cps.toList.length := by omega
  have ek : k = ((k.toNat : Nat) : Int) := by omega
  have q : atI z.cps.toList ((k.toNat : Nat) : Int) = some z.cps.toList[k.toNat] := atI_nat (List.getElem?_eq_getElem hk)
  rw [← ek] at q
  exact ⟨_, List.getElem?_eq_getElem hk, q⟩
theorem join_len (sep : Str) (ys : List Str) : (Txt.join sep ys).length ≤ (ys.map (·.length)).sum + ys.length * sep.length := by
  have e : Txt.join sep ys = Str.join sep ys := by simpa using join_plain_closes sep ys
  rw [e]
  exact StrLaws.join_length_le sep ys
theorem sum_ones : ∀ ss : List Str, (∀ s ∈ ss, s.length ≤ 1) → (ss.map (·.length)).sum ≤ ss.length
  | [], _ => Nat.le_refl _
  | s :: r, h => by
    have h1 := h s List.mem_cons_self
    have h2 := sum_ones r fun x hx => h x (List.mem_cons_of_mem _ hx)
    rw [List.map_cons, List.sum_cons, List.length_cons]
    omega
/-- how many signs two have alike from the front on -/
def lcp : List Nat → List Nat → Nat
  | a :: r, b :: s => if a = b then lcp r s + 1 else 0
  | _, _ => 0
theorem lcp_le : ∀ (x y : List Nat), lcp x y ≤ x.length ∧ lcp x y ≤ y.length
  | [], _ => ⟨Nat.zero_le _, Nat.zero_le _⟩
  | _ :: _, [] => ⟨Nat.zero_le _, Nat.zero_le _⟩
  | a :: r, b :: s => by
    have h := lcp_le r s
    unfold lcp
    split
    · exact ⟨Nat.succ_le_succ h.1, Nat.succ_le_succ h.2⟩
    · exact ⟨Nat.zero_le _, Nat.zero_le _⟩
theorem lcp_comm : ∀ (x y : List Nat), lcp x y = lcp y x
  | [], [] => rfl
  | [], _ :: _ => rfl
  | _ :: _, [] => rfl
  | a :: r, b :: s => by
    unfold lcp
    by_cases h : a = b
    · rw [if_pos h, if_pos h.symm, lcp_comm r s]
    · rw [if_neg h, if_neg fun e => h e.symm]
theorem lcp_nil (x : List Nat) : lcp x [] = 0 := by cases x <;> rfl
theorem lcp_nil' (x : List Nat) : lcp [] x = 0 := by cases x <;> rfl
/-- one place further -/
theorem lcp_on : ∀ (x y : List Nat) (k : Nat), k ≤ lcp x y → ∀ a, x[k]? = some a → y[k]? = some a → k + 1 ≤ lcp x y
  | [], _, k, _, a, h, _ => by simp at h
  | _ :: _, [], k, _, a, _, h => by simp at h
  | a :: r, b :: s, 0, _, c, h1, h2 => by
    simp at h1 h2
    unfold lcp
    rw [if_pos (by rw [h1, h2])]
    omega
  | a :: r, b :: s, k + 1, h, c, h1, h2 => by
    unfold lcp at h ⊢
    by_cases e : a = b
    · rw [if_pos e] at h ⊢
      have := lcp_on r s k (by omega) c (by simpa using h1) (by simpa using h2)
      omega
    · rw [if_neg e] at h; omega
theorem lcp_in : ∀ (x y : List Nat) (k : Nat), k < lcp x y → x[k]? = y[k]?
  | [], _, k, h => by unfold lcp at h; omega
  | _ :: _, [], k, h => by unfold lcp at h; omega
  | a :: r, b :: s, 0, h => by
    unfold lcp at h
    by_cases e : a = b
    · simp [e]
    · rw [if_neg e] at h; omega
  | a :: r, b :: s, k + 1, h => by
    unfold lcp at h
    by_cases e : a = b
    · rw [if_pos e] at h
      simpa using lcp_in r s k (by omega)
    · rw [if_neg e] at h; omega
/-- where it ends -/
theorem lcp_end (x y : List Nat) (k : Nat) (h : k ≤ lcp x y) (n : x.length ≤ k ∨ y.length ≤ k ∨ ∃ a b, x[k]? = some a ∧ y[k]? = some b ∧ a ≠ b) : lcp x y = k := by
  have l := lcp_le x y
  rcases n with n | n | ⟨a, b, h1, h2, ne⟩
  · omega
  · omega
  · by_cases q : k < lcp x y
    · have := lcp_in x y k q
      rw [h1, h2] at this
      exact absurd (Option.some.inj this) ne
    · omega
abbrev cds (z : Str) : List Nat := z.cps.toList
/-- of letters a to z alone -/
def AZ (z : Str) : Prop := ∀ c ∈ cds z, 97 ≤ c ∧ c ≤ 122
theorem cds_app (x y : Str) : cds (x ++ y) = cds x ++ cds y := by
  show (x ++ y).cps.toList = _
  rw [PySem.Str.cps_append]
  simp
theorem AZ.app {x y : Str} (a : AZ x) (b : AZ y) : AZ (x ++ y) := fun c h => by
  rw [cds_app] at h
  exact (List.mem_append.mp h).elim (a c) (b c)
theorem AZ.nil : AZ "" := by unfold AZ cds; decide +kernel
theorem AZ.join : ∀ ys : List Str, (∀ s ∈ ys, AZ s) → AZ (Str.join "" ys)
  | [], _ => fun c h => by cases (show c ∈ ([] : List Nat) from h)
  | [x], h => h x (by simp)
  | x :: y :: r, h => ((h x (by simp)).app AZ.nil).app (AZ.join (y :: r) fun s hs => h s (List.mem_cons_of_mem _ hs))
theorem AZ.joinT (ys : List Str) (h : ∀ s ∈ ys, AZ s) : AZ (Txt.join "" ys) := by
  have e : Txt.join "" ys = Str.join "" ys := by simpa using join_plain_closes "" ys
  rw [e]
  exact AZ.join ys h
theorem AZ.one {z : Str} (a : AZ z) {k : Nat} {c : Nat} (h : z.cps.toList[k]? = some c) : AZ ⟨#[c]⟩ := fun d hd => by
  have e : d = c := by simpa using hd
  rw [e]
  exact a c (List.mem_of_getElem? h)
theorem AZ.ok {z : Str} (a : AZ z) : PyData.strOk z = true := by
  unfold PyData.strOk
  rw [Array.all_eq_true]
  intro i hi
  have := a z.cps[i] (by simp)
  exact decide_eq_true (by omega)
theorem az_six : AZ "ababcz" := by unfold AZ cds; decide +kernel
def spAlike : Sp := fun vs H Q _ => ∃ x y : Str, vs = [.str x, .str y] ∧ x.length ≤ 1000 ∧ y.length ≤ 1000 ∧ Q (.int (lcp (cds x) (cds y))) H
def spAlikeFrom : Sp := fun vs H Q _ => ∃ (x y : Str) (far : Nat), vs = [.str x, .str y, .int far] ∧ x.length ≤ 1000 ∧ y.length ≤ 1000 ∧ far ≤ lcp (cds x) (cds y) ∧ Q (.int (lcp (cds x) (cds y))) H
/-- equal data, of both kinds alike, less than n deep -/
def IsD (H : Hp) : Nat → V → V → Prop
  | 0, _, _ => False
  | n + 1, x, y => (x = y ∧ (x = .non ∨ (∃ b, x = .bl b) ∨ (∃ i, x = .int i) ∨ ∃ s, x = .str s)) ∨
      (∃ (p q : Addr) (xs ys : List V), x = .ref p ∧ y = .ref q ∧ ((H p = some (.lst xs) ∧ H q = some (.lst ys)) ∨ (H p = some (.tup xs) ∧ H q = some (.tup ys))) ∧ xs.length = ys.length ∧ xs.length ≤ 1000 ∧ ∀ (i : Nat) (x y : V), xs[i]? = some x → ys[i]? = some y → IsD H n x y)
def spSame (n : Nat) : Sp := fun vs H Q _ => ∃ x y : V, vs = [x, y] ∧ IsD H n x y ∧ ∀ H', Same H H' → Q (.bl true) H'
section
variable (K : PySem.W.Frag)
open PySem.W
theorem k_bl_bl : kitOne K (.type "bool") (.type "bool") = some true := by unfold kitOne kitCls; rfl
end
section
variable {P : Program} {w : World} {K : PySem.W.Frag} {mg : Str → Option Value} {base : Heap}
theorem ok_mix (T : Tops K mg) : Df P w K mg base 1 "_law_mix" ["_law_cell", "_law_k"] spMix := by
  refine T.t_l_mix.df sc_l_mix (fun vs H Q E h => ?_) (fun cdv f A outer s H vs Q E hr h => ?_)
  · obtain ⟨a, k, rfl, _⟩ := h
    rfl
  obtain ⟨a, k, rfl, k1, k2, q⟩ := h
  refine ⟨_, (@pss_cons _ _ _ _ _ (@ps_set _ _ 2 _ _ _ _ sc_l_mix.nd rfl (Or.inl rfl) (@pe_op _ _ _ _ _ _ _ _ op_mod (@pe_op _ _ _ _ _ _ _ _ op_mul (@pe_op _ _ _ _ _ _ _ _ op_add (@pe_op _ _ _ _ _ _ _ _ op_add (@pe_op _ _ _ _ _ _ _ _ op_mod (@pv _ 0 _ _ (by rfl) (Or.inl rfl) (by decide) (by decide)) (@pe_int _ _ _ _)) (@pe_op _ _ _ _ _ _ _ _ op_mul (@pe_op _ _ _ _ _ _ _ _ op_mul (@pv _ 1 _ _ (by rfl) (Or.inl rfl) (by decide) (by decide)) (@pv _ 1 _ _ (by rfl) (Or.inl rfl) (by decide) (by decide))) (@pe_int _ _ _ _))) (@pe_int _ _ _ _)) (@pe_int _ _ _ _)) (@pe_int _ _ _ _)) (by rfl) (by first | exact .inl rfl | exact .inr rfl)) (@pss_one _ _ _ (@ps_ret _ _ _ _ (@pe_op _ _ _ _ _ _ _ _ op_mod (@pe_op _ _ _ _ _ _ _ _ op_mul (@pv _ 2 _ _ (by rfl) (Or.inl rfl) (by decide) (by decide)) (@pv _ 2 _ _ (by rfl) (Or.inl rfl) (by decide) (by decide))) (@pe_int _ _ _ _))))), ?_⟩
  refine ⟨_, rfl, _, _, rfl, rfl, (by show (0 : Int) < _; decide), _, rfl, _, rfl, _, _, rfl, rfl, .inl ⟨by omega, by omega⟩, _, _, rfl, rfl, .inr ⟨by decide, by decide⟩, _, _, rfl, rfl, _, _, rfl, rfl, _, _, rfl, rfl, .inr ⟨by decide, by decide⟩, _, _, rfl, rfl, (by show (0 : Int) < _; decide), ?_⟩
  have m0 := Int.emod_nonneg ((a % 2147483629 + k * k * 7919 + 11) * 48271) (show (2147483647 : Int) ≠ 0 by decide)
  have m1 := Int.emod_lt_of_pos ((a % 2147483629 + k * k * 7919 + 11) * 48271) (show (0 : Int) < 2147483647 by decide)
  refine ⟨_, rfl, _, rfl, _, _, rfl, rfl, .inl ⟨by omega, by omega⟩, _, _, rfl, rfl, (by show (0 : Int) < _; decide), ?_⟩
  exact q _ (Int.emod_nonneg _ (by decide)) (Int.lt_trans (Int.emod_lt_of_pos _ (by decide)) (by decide))
theorem ok_left (T : Tops K mg) : Df P w K mg base 1 "_law_left" ["_law_script", "_law_k"] (spLeft K) := by
  refine T.t_l_left.df sc_l_left (fun vs H Q E h => ?_) (fun cdv f A outer s H vs Q E hr h => ?_)
  · obtain ⟨a, ns, k, rfl, _⟩ := h
    rfl
  obtain ⟨a, ns, k, rfl, hS, h63, k0, k1, q⟩ := h
  refine ⟨_, (@pss_cons _ _ _ _ _ (@ps_set _ _ 2 _ _ _ _ sc_l_left.nd rfl (Or.inl rfl) (@pe_ifExp _ _ _ _ _ _ _ _ (@pt_cmpR _ _ _ _ _ _ _ _ op_lt (@pv _ 1 _ _ (by rfl) (Or.inl rfl) (by decide) (by decide)) (@pe_callB _ _ _ _ _ _ _ _ _ (lenQ K) (by rfl) T.b.n_len PySem.boot_len (@pa_cons _ _ _ _ _ (@pv _ 0 _ _ (by rfl) (Or.inl rfl) (by decide) (by decide)) (@pa_nil _) (by rfl)) (by decide) (by decide) (by rfl) (by rfl)) (nomark _)) (@pe_ix _ _ _ _ _ _ _ (ixL K) (@pv _ 0 _ _ (by rfl) (Or.inl rfl) (by decide) (by decide)) (@pv _ 1 _ _ (by rfl) (Or.inl rfl) (by decide) (by decide)) (fun _ _ => rfl)) (@pe_int _ _ _ _)) (by rfl) (by first | exact .inl rfl | exact .inr rfl)) (@pss_one _ _ _ (@ps_ret _ _ _ _ (@pe_lst _ _ _ _ (@pa_cons _ _ _ _ _ (@pe_op _ _ _ _ _ _ _ _ op_mul (@pe_callB _ _ _ _ _ _ _ _ _ call_abs (by rfl) T.b.n_abs boot_abs (@pa_cons _ _ _ _ _ (@pv _ 2 _ _ (by rfl) (Or.inl rfl) (by decide) (by decide)) (@pa_nil _) (by rfl)) (by decide) (by decide) (by rfl) (by rfl)) (@pe_callTy _ _ _ _ _ _ _ _ _ call_int1 (by rfl) T.b.n_int boot_int (@pa_cons _ _ _ _ _ (@pe_cmpR _ _ _ _ _ _ _ _ op_ge (@pe_callB _ _ _ _ _ _ _ _ _ call_abs (by rfl) T.b.n_abs boot_abs (@pa_cons _ _ _ _ _ (@pv _ 2 _ _ (by rfl) (Or.inl rfl) (by decide) (by decide)) (@pa_nil _) (by rfl)) (by decide) (by decide) (by rfl) (by rfl)) (@pe_op _ _ _ _ _ _ _ _ op_pow (@pe_int _ _ _ _) (@pe_int _ _ _ _)) (nomark _)) (@pa_nil _) (by rfl)) (by decide) (by decide) (by rfl) (by rfl))) (@pa_cons _ _ _ _ _ (@pe_op _ _ _ _ _ _ _ _ op_add (@pv _ 2 _ _ (by rfl) (Or.inl rfl) (by decide) (by decide)) (@pe_op _ _ _ _ _ _ _ _ op_mul (@pe_int _ _ _ _) (@pv _ 1 _ _ (by rfl) (Or.inl rfl) (by decide) (by decide)))) (@pa_cons _ _ _ _ _ (@pe_int _ _ _ _) (@pa_nil _) (by rfl)) (by rfl)) (by rfl)))))), ?_⟩
  have hl : (ns.map V.int).length = ns.length := List.length_map _
  have pw : CPow 10 18 := ⟨by decide, by decide, by decide⟩
  refine ⟨_, rfl, _, rfl, a, _, rfl, .inl hS, _, _, rfl, rfl, _, rfl, ?_⟩
  refine ite2 (fun c => ?_) (fun c => ?_)
  · have c' : k < (((ns.map V.int).length : Nat) : Int) := of_decide_eq_true c
    rw [hl] at c'
    obtain ⟨v, hv⟩ := at_int (ns := ns) k0 c'
    refine ⟨_, rfl, _, rfl, a, _, _, _, rfl, rfl, hS, hv, ?_⟩
    refine ⟨_, rfl, _, rfl, _, rfl, _, rfl, _, _, rfl, rfl, pw, _, _, rfl, rfl, .inr ⟨_, rfl, _, _, rfl, rfl, .inr (bit01 _), _, rfl, _, rfl, _, _, rfl, rfl, .inl ⟨by decide, by decide⟩, _, _, rfl, rfl, (by show 3 ≤ sizeLine; decide), fun p hp => ?_⟩⟩
    exact q p _ hp ⟨_, _, upd_same, Int.le_refl _⟩ (same_new hp _)
  · refine ⟨_, rfl, _, rfl, _, rfl, _, rfl, _, _, rfl, rfl, pw, _, _, rfl, rfl, .inr ⟨_, rfl, _, _, rfl, rfl, .inr (bit01 _), _, rfl, _, rfl, _, _, rfl, rfl, .inl ⟨by decide, by decide⟩, _, _, rfl, rfl, (by show 3 ≤ sizeLine; decide), fun p hp => ?_⟩⟩
    exact q p _ hp ⟨_, _, upd_same, Int.le_refl _⟩ (same_new hp _)
theorem ok_pick (T : Tops K mg) (f_l_mix : Df P w K mg base 1 "_law_mix" ["_law_cell", "_law_k"] spMix) : Df P w K mg base 2 "_law_pick" ["_law_left_here", "_law_many"] spPick := by
  refine T.t_l_pick.df sc_l_pick (fun vs H Q E h => ?_) (fun cdv f A outer s H vs Q E hr h => ?_)
  · obtain ⟨p, c, m, rfl, _⟩ := h
    rfl
  obtain ⟨p, c, m, rfl, ⟨a, b, hp, c0⟩, c1, m0, m1, q⟩ := h
  refine ⟨_, (@pss_cons _ _ _ _ _ (@ps_asg _ _ _ _ _ _ (@pe_op _ _ _ _ _ _ _ _ op_add (@pe_ix _ _ _ _ _ _ _ (ixL K) (@pv _ 0 _ _ (by rfl) (Or.inl rfl) (by decide) (by decide)) (@pe_int _ _ _ _) (fun _ _ => rfl)) (@pe_int _ _ _ _)) (@pg_sub _ _ _ _ _ _ _ (@pv _ 0 _ _ (by rfl) (Or.inl rfl) (by decide) (by decide)) (@pe_int _ _ _ _) set_list (by intro _; rfl)) (by rfl) (by rfl) (by rfl)) (@pss_cons _ _ _ _ _ (@ps_if _ _ _ _ _ _ _ _ (@pt_cmpR _ _ _ _ _ _ _ _ op_gt (@pe_ix _ _ _ _ _ _ _ (ixL K) (@pv _ 0 _ _ (by rfl) (Or.inl rfl) (by decide) (by decide)) (@pe_int _ _ _ _) (fun _ _ => rfl)) (@pe_int _ _ _ _) (nomark _)) (@pss_cons _ _ _ _ _ (@ps_set _ _ 2 _ _ _ _ sc_l_pick.nd rfl (Or.inl rfl) (@pe_op _ _ _ _ _ _ _ _ op_mod (@pe_ix _ _ _ _ _ _ _ (ixL K) (@pv _ 0 _ _ (by rfl) (Or.inl rfl) (by decide) (by decide)) (@pe_int _ _ _ _) (fun _ _ => rfl)) (@pv _ 1 _ _ (by rfl) (Or.inl rfl) (by decide) (by decide))) (by rfl) (by first | exact .inl rfl | exact .inr rfl)) (@pss_cons _ _ _ _ _ (@ps_asg _ _ _ _ _ _ (@pe_op _ _ _ _ _ _ _ _ op_fdiv (@pe_ix _ _ _ _ _ _ _ (ixL K) (@pv _ 0 _ _ (by rfl) (Or.inl rfl) (by decide) (by decide)) (@pe_int _ _ _ _) (fun _ _ => rfl)) (@pv _ 1 _ _ (by rfl) (Or.inl rfl) (by decide) (by decide))) (@pg_sub _ _ _ _ _ _ _ (@pv _ 0 _ _ (by rfl) (Or.inl rfl) (by decide) (by decide)) (@pe_int _ _ _ _) set_list (by intro _; rfl)) (by rfl) (by rfl) (by rfl)) (@pss_one _ _ _ (@ps_ret _ _ _ _ (@pv _ 2 _ _ (by rfl) (Or.inl rfl) (by decide) (by decide)))))) (@pss_nil _)) (@pss_one _ _ _ (@ps_ret _ _ _ _ (@pe_op _ _ _ _ _ _ _ _ op_mod (@pe_op _ _ _ _ _ _ _ _ op_fdiv (@pe_df _ _ _ _ _ _ _ _ _ _ _ f_l_mix hr (@pa_cons _ _ _ _ _ (@pe_df _ _ _ _ _ _ _ _ _ _ _ f_l_mix hr (@pa_cons _ _ _ _ _ (@pe_ix _ _ _ _ _ _ _ (ixL K) (@pv _ 0 _ _ (by rfl) (Or.inl rfl) (by decide) (by decide)) (@pe_int _ _ _ _) (fun _ _ => rfl)) (@pa_cons _ _ _ _ _ (@pe_ix _ _ _ _ _ _ _ (ixL K) (@pv _ 0 _ _ (by rfl) (Or.inl rfl) (by decide) (by decide)) (@pe_int _ _ _ _) (fun _ _ => rfl)) (@pa_nil _) (by rfl)) (by rfl)) (by first | decide | exact Nat.le_refl _ | omega) (by rfl) (by decide) (by rfl) (by rfl)) (@pa_cons _ _ _ _ _ (@pe_op _ _ _ _ _ _ _ _ op_add (@pe_ix _ _ _ _ _ _ _ (ixL K) (@pv _ 0 _ _ (by rfl) (Or.inl rfl) (by decide) (by decide)) (@pe_int _ _ _ _) (fun _ _ => rfl)) (@pe_int _ _ _ _)) (@pa_nil _) (by rfl)) (by rfl)) (by first | decide | exact Nat.le_refl _ | omega) (by rfl) (by decide) (by rfl) (by rfl)) (@pe_int _ _ _ _)) (@pv _ 1 _ _ (by rfl) (Or.inl rfl) (by decide) (by decide))))))), ?_⟩
  have u1 : (upd H p (.lst [.int a, .int b, .int (c + 1)])) p = some (.lst [.int a, .int b, .int (c + 1)]) := upd_same
  refine ⟨_, rfl, p, _, _, _, rfl, rfl, SqL.of hp, rfl, _, _, rfl, rfl, _, rfl, p, _, _, 2, rfl, rfl, hp, rfl, ?_⟩
  refine ⟨_, rfl, p, _, _, _, rfl, rfl, SqL.of u1, rfl, _, _, rfl, rfl, _, rfl, ?_⟩
  refine ite2 (fun d => ?_) (fun d => ?_)
  · refine ⟨_, rfl, p, _, _, _, rfl, rfl, SqL.of u1, rfl, _, rfl, _, _, rfl, rfl, m0, ?_⟩
    refine ⟨_, rfl, p, _, _, _, rfl, rfl, SqL.of u1, rfl, _, rfl, _, _, rfl, rfl, ⟨m0, by omega⟩, _, rfl, p, _, _, 0, rfl, rfl, u1, rfl, ?_⟩
    refine ⟨_, rfl, ?_⟩
    refine q _ _ (Int.emod_nonneg _ (by omega)) (Int.emod_lt_of_pos _ m0) ⟨a / m, b, upd_same, by omega⟩ fun e o h n => ?_
    rw [upd_ne n, upd_ne n]
    exact h
  · refine ⟨_, rfl, p, _, _, _, rfl, rfl, SqL.of u1, rfl, _, rfl, p, _, _, _, rfl, rfl, SqL.of u1, rfl, _, _, rfl, by omega, by omega, fun r r0 r1 => ?_⟩
    refine ⟨_, rfl, p, _, _, _, rfl, rfl, SqL.of u1, rfl, _, _, rfl, rfl, _, _, rfl, by omega, by omega, fun r' r0' r1' => ?_⟩
    refine ⟨_, _, rfl, rfl, ⟨by decide, by decide⟩, _, rfl, _, _, rfl, rfl, m0, ?_⟩
    refine q _ _ (Int.emod_nonneg _ (by omega)) (Int.emod_lt_of_pos _ m0) ⟨a, b, upd_same, by omega⟩ fun e o h n => ?_
    rw [upd_ne n]
    exact h
def stems12 : List Str := ["", "a", "ab", "aba", "abab", "b", "zebra", "aaaaaaaa", "knowswho", "z", "abababababab", Txt.mul "a" 24]
theorem stems12_len : ∀ s ∈ stems12, s.length ≤ 24 := by decide +kernel
theorem stems12_az : ∀ s ∈ stems12, AZ s := by unfold AZ cds; decide +kernel
def spStems : Sp := fun vs H Q _ => ∃ (p : Addr) (c : Int), vs = [.ref p] ∧ Left H p c ∧ c < 2 ^ 50 ∧
  ∀ (l : Addr) (ss : List Str) (c' : Int) (H' : Hp), H l = none → H' l = some (.lst (ss.map V.str)) → 1 ≤ ss.length → ss.length ≤ 4 → (∀ s ∈ ss, s.length ≤ 24 ∧ AZ s) → Left H' p c' → c ≤ c' → c' ≤ c + 5 → But p H H' → Q (.ref l) H'
def spKey : Sp := fun vs H Q _ => ∃ (p l : Addr) (c : Int) (ss : List Str), vs = [.ref p, .ref l] ∧ Left H p c ∧ c < 2 ^ 50 ∧ H l = some (.lst (ss.map V.str)) ∧ 1 ≤ ss.length ∧ ss.length ≤ 4 ∧ (∀ s ∈ ss, s.length ≤ 24 ∧ AZ s) ∧
  ∀ (z : Str) (c' : Int) (H' : Hp), z.length ≤ 28 → AZ z → Left H' p c' → c ≤ c' → c' ≤ c + 6 → But p H H' → Q (.str z) H'
theorem ok_stems (T : Tops K mg) (f_l_pick : Df P w K mg base 2 "_law_pick" ["_law_left_here", "_law_many"] spPick) : Df P w K mg base 3 "_law_stems" ["_law_left_here"] spStems := by
  refine T.t_l_stems.df sc_l_stems (fun vs H Q E h => ?_) (fun cdv f A outer s H vs Q E hr h => ?_)
  · obtain ⟨p, c, rfl, _⟩ := h
    rfl
  obtain ⟨p, c, rfl, hL, c1, q⟩ := h
  refine ⟨_, (@pss_cons _ _ _ _ _ (@ps_set _ _ 1 _ _ _ _ sc_l_stems.nd rfl (Or.inr rfl) (@pe_lst _ _ _ _ (@pa_cons _ _ _ _ _ (@pe_str _ _ _ _) (@pa_cons _ _ _ _ _ (@pe_str _ _ _ _) (@pa_cons _ _ _ _ _ (@pe_str _ _ _ _) (@pa_cons _ _ _ _ _ (@pe_str _ _ _ _) (@pa_cons _ _ _ _ _ (@pe_str _ _ _ _) (@pa_cons _ _ _ _ _ (@pe_str _ _ _ _) (@pa_cons _ _ _ _ _ (@pe_str _ _ _ _) (@pa_cons _ _ _ _ _ (@pe_str _ _ _ _) (@pa_cons _ _ _ _ _ (@pe_str _ _ _ _) (@pa_cons _ _ _ _ _ (@pe_str _ _ _ _) (@pa_cons _ _ _ _ _ (@pe_str _ _ _ _) (@pa_cons _ _ _ _ _ (@pe_op _ _ _ _ _ _ _ _ op_mulS (@pe_str _ _ _ _) (@pe_int _ _ _ _)) (@pa_nil _) (by rfl)) (by rfl)) (by rfl)) (by rfl)) (by rfl)) (by rfl)) (by rfl)) (by rfl)) (by rfl)) (by rfl)) (by rfl)) (by rfl))) (by rfl) (by first | exact .inl rfl | exact .inr rfl)) (@pss_one _ _ _ (@ps_ret _ _ _ _ (@pe_comp _ _ _ _ _ _ _ _ _ _ _ _ _ _ cs_0 rfl rfl rfl (@pi_range1 _ _ _ _ _ _ rfl T.b.n_range (@pa_cons _ _ _ _ _ (@pe_op _ _ _ _ _ _ _ _ op_add (@pe_int _ _ _ _) (@pe_df _ _ _ _ _ _ _ _ _ _ _ f_l_pick hr (@pa_cons _ _ _ _ _ (@pv _ 0 _ _ (by rfl) (Or.inr (Or.inl rfl)) (by decide) (by decide)) (@pa_cons _ _ _ _ _ (@pe_int _ _ _ _) (@pa_nil _) (by rfl)) (by rfl)) (by first | decide | exact Nat.le_refl _ | omega) (by rfl) (by decide) (by rfl) (by rfl))) (@pa_nil _) (by rfl)) (by rfl)) (fun _ _ _ _ => (@cg _ _ _ _ _ _ _ _ _ _ _ 2 cs_0 rfl (by decide +kernel) (by rfl))) (fun _ _ _ _ => (@pts_nil _)) (fun _ _ _ _ => (@pe_ix _ _ _ _ _ _ _ (ixL K) (@cv _ _ _ _ _ _ _ _ _ _ _ 1 cs_0 rfl (by decide +kernel) (by rfl) (by decide) (by decide)) (@pe_df _ _ _ _ _ _ _ _ _ _ _ f_l_pick hr (@pa_cons _ _ _ _ _ (@cv _ _ _ _ _ _ _ _ _ _ _ 0 cs_0 rfl (by decide +kernel) (by rfl) (by decide) (by decide)) (@pa_cons _ _ _ _ _ (@pe_int _ _ _ _) (@pa_nil _) (by rfl)) (by rfl)) (by first | decide | exact Nat.le_refl _ | omega) (comp_glob cs_0 rfl (by decide +kernel)) (by decide) (by rfl) (by rfl)) (fun _ _ => rfl))) (by intro _; rfl))))), ?_⟩
  refine ⟨_, _, rfl, rfl, by decide, by decide, by decide, (by show 12 ≤ sizeLine; decide), fun l hl => ?_⟩
  have npl : p ≠ l := by obtain ⟨a, b, hp, _⟩ := hL; exact ne_of_none hp hl
  have hL1 : Left (upd H l (.lst (stems12.map V.str))) p c := by obtain ⟨a, b, hp, c0⟩ := hL; exact ⟨a, b, by rw [upd_ne npl]; exact hp, c0⟩
  refine ⟨_, rfl, p, c, _, rfl, hL1, by omega, by decide, by decide, fun r H1 r0 r1 L1 B1 => ?_⟩
  refine ⟨_, _, rfl, rfl, _, rfl, by omega, by omega, fun D hD => ?_⟩
  have c0 : 0 ≤ c := by obtain ⟨a, b, hp, c0⟩ := hL; exact c0
  have h1l : H1 l = some (.lst (stems12.map V.str)) := B1 l _ upd_same npl.symm
  have npD : p ≠ D := by obtain ⟨a, b, hp, _⟩ := L1; exact ne_of_none hp hD
  have nlD : l ≠ D := ne_of_none h1l hD
  refine comp_range (fun i ys σ H2 => ∃ (ss : List Str) (v : Option V) (c2 : Int), σ = [some (.ref p), some (.ref l), v] ∧ ys = ss.map V.str ∧ ss.length = i ∧ (∀ s ∈ ss, s.length ≤ 24 ∧ AZ s) ∧ Left H2 p c2 ∧ c + 1 ≤ c2 ∧ c2 ≤ c + 1 + i ∧
      H2 l = some (.lst (stems12.map V.str)) ∧ H2 D = some (.lst ys) ∧ But p H H2) ?_ ?_ ?_
  · refine ⟨[], none, c + 1, rfl, rfl, rfl, (fun s hs => by cases hs), ?_, by omega, by omega, ?_, upd_same, ?_⟩
    · obtain ⟨a, b, hp, q0⟩ := L1
      exact ⟨a, b, by rw [upd_ne npD]; exact hp, q0⟩
    · rw [upd_ne nlD]; exact h1l
    · intro b o e n
      have e1 : (upd H l (.lst (stems12.map V.str))) b = some o := by rw [upd_ne (ne_of_none e hl)]; exact e
      have e2 := B1 b o e1 n
      rw [upd_ne (ne_of_none e2 hD)]
      exact e2
  · rintro i ys σ H2 hi ⟨ss, v, c2, rfl, rfl, hn, hs, L2', b1, b2, hl2, hD2, B2⟩
    refine ⟨_, rfl, _, rfl, p, c2, _, rfl, L2', by omega, by decide, by decide, fun r' H3 r0' r1' L3 B3 => ?_⟩
    obtain ⟨s, hs1, hs2⟩ := at_str (ss := stems12) r0' r1'
    have hD3 : H3 D = some (.lst (ss.map V.str)) := B3 D _ hD2 npD.symm
    have hl3 : H3 l = some (.lst (stems12.map V.str)) := B3 l _ hl2 npl.symm
    refine ⟨l, _, _, _, rfl, rfl, SqL.of hl3, hs2, hD3, (by rw [List.length_map, hn]; exact small1000 (by omega)), ss ++ [s], _, c2 + 1, rfl, ?_, ?_, ?_, ?_, by omega, by omega, ?_, upd_same, ?_⟩
    · rw [List.map_append]; rfl
    · rw [List.length_append, hn]; rfl
    · intro x hx
      rcases List.mem_append.mp hx with hx | hx
      · exact hs x hx
      · rw [List.mem_singleton.mp hx]; exact ⟨stems12_len s hs1, stems12_az s hs1⟩
    · obtain ⟨a, b, hp, q0⟩ := L3
      exact ⟨a, b, by rw [upd_ne npD]; exact hp, q0⟩
    · rw [upd_ne nlD]; exact hl3
    · intro b o e n
      have e2 := B3 b o (B2 b o e n) n
      have e3 : H D = none := by
        cases w' : H D with
        | none => rfl
        | some u =>
          have nDp : D ≠ p := npD.symm
          have z1 : (upd H l (.lst (stems12.map V.str))) D = some u := by rw [upd_ne nlD.symm]; exact w'
          rw [B1 D u z1 nDp] at hD
          cases hD
      rw [upd_ne (ne_of_none e e3)]
      exact e2
  · rintro ys σ H2 ⟨ss, v, c2, rfl, rfl, hn, hs, L2', b1, b2, hl2, hD2, B2⟩
    have e3 : H D = none := by
      cases w' : H D with
      | none => rfl
      | some u =>
        have z1 : (upd H l (.lst (stems12.map V.str))) D = some u := by rw [upd_ne nlD.symm]; exact w'
        rw [B1 D u z1 npD.symm] at hD
        cases hD
    exact q D ss c2 H2 e3 hD2 (by omega) (by omega) hs L2' (by omega) (by omega) B2
theorem ok_key (T : Tops K mg) (f_l_pick : Df P w K mg base 2 "_law_pick" ["_law_left_here", "_law_many"] spPick) : Df P w K mg base 3 "_law_key" ["_law_left_here", "_law_stems_here"] spKey := by
  refine T.t_l_key.df sc_l_key (fun vs H Q E h => ?_) (fun cdv f A outer s H vs Q E hr h => ?_)
  · obtain ⟨p, l, c, ss, rfl, _⟩ := h
    rfl
  obtain ⟨p, l, c, ss, rfl, hL, c1, hl, n1, n4, h24, q⟩ := h
  refine ⟨_, (@pss_cons _ _ _ _ _ (@ps_set _ _ 2 _ _ _ _ sc_l_key.nd rfl (Or.inl rfl) (@pe_bm _ _ _ _ _ _ _ _ _ _ _ _ PySem.F.plainAttrs_str PySem.F.slot_str_join PySem.F.type_str_join (joinQ K) (@pe_str _ _ _ _) (@pa_cons _ _ _ _ _ (@pe_comp _ _ _ _ _ _ _ _ _ _ _ _ _ _ cs_1 rfl rfl rfl (@pi_range1 _ _ _ _ _ _ rfl T.b.n_range (@pa_cons _ _ _ _ _ (@pe_df _ _ _ _ _ _ _ _ _ _ _ f_l_pick hr (@pa_cons _ _ _ _ _ (@pv _ 0 _ _ (by rfl) (Or.inr (Or.inl rfl)) (by decide) (by decide)) (@pa_cons _ _ _ _ _ (@pe_int _ _ _ _) (@pa_nil _) (by rfl)) (by rfl)) (by first | decide | exact Nat.le_refl _ | omega) (by rfl) (by decide) (by rfl) (by rfl)) (@pa_nil _) (by rfl)) (by rfl)) (fun _ _ _ _ => (@cg _ _ _ _ _ _ _ _ _ _ _ 3 cs_1 rfl (by decide +kernel) (by rfl))) (fun _ _ _ _ => (@pts_nil _)) (fun _ _ _ _ => (@pe_ix _ _ _ _ _ _ _ ix_str (@pe_str _ _ _ _) (@pe_df _ _ _ _ _ _ _ _ _ _ _ f_l_pick hr (@pa_cons _ _ _ _ _ (@cv _ _ _ _ _ _ _ _ _ _ _ 0 cs_1 rfl (by decide +kernel) (by rfl) (by decide) (by decide)) (@pa_cons _ _ _ _ _ (@pe_int _ _ _ _) (@pa_nil _) (by rfl)) (by rfl)) (by first | decide | exact Nat.le_refl _ | omega) (comp_glob cs_1 rfl (by decide +kernel)) (by decide) (by rfl) (by rfl)) (fun _ _ => rfl))) (by intro _; rfl)) (@pa_nil _) (by rfl)) (by rfl) (by rfl) (by rfl) (by rfl) (by rfl)) (by rfl) (by first | exact .inl rfl | exact .inr rfl)) (@pss_one _ _ _ (@ps_ret _ _ _ _ (@pe_op _ _ _ _ _ _ _ _ op_add_str (@pe_ix _ _ _ _ _ _ _ (ixL K) (@pv _ 1 _ _ (by rfl) (Or.inl rfl) (by decide) (by decide)) (@pe_df _ _ _ _ _ _ _ _ _ _ _ f_l_pick hr (@pa_cons _ _ _ _ _ (@pv _ 0 _ _ (by rfl) (Or.inr (Or.inl rfl)) (by decide) (by decide)) (@pa_cons _ _ _ _ _ (@pe_callB _ _ _ _ _ _ _ _ _ (lenQ K) (by rfl) T.b.n_len PySem.boot_len (@pa_cons _ _ _ _ _ (@pv _ 1 _ _ (by rfl) (Or.inl rfl) (by decide) (by decide)) (@pa_nil _) (by rfl)) (by decide) (by decide) (by rfl) (by rfl)) (@pa_nil _) (by rfl)) (by rfl)) (by first | decide | exact Nat.le_refl _ | omega) (by rfl) (by decide) (by rfl) (by rfl)) (fun _ _ => rfl)) (@pv _ 2 _ _ (by rfl) (Or.inl rfl) (by decide) (by decide)))))), ?_⟩
  have c0 : 0 ≤ c := by obtain ⟨a, b, hp, c0⟩ := hL; exact c0
  have npl : p ≠ l := by
    obtain ⟨a, b, hp, _⟩ := hL
    refine ne_of hp hl fun e => ?_
    have e1 := congrArg List.length (HO.lst.inj e)
    cases ss with
    | nil => cases e1
    | cons x r => exact absurd (HO.lst.inj e) (by intro z; cases z)
  refine ⟨rfl, _, rfl, p, c, _, rfl, hL, by omega, by decide, by decide, fun r H1 r0 r1 L1 B1 => ?_⟩
  refine ⟨_, rfl, by omega, by omega, fun D hD => ?_⟩
  have npD : p ≠ D := by obtain ⟨a, b, hp, _⟩ := L1; exact ne_of_none hp hD
  have h1l := B1 l _ hl npl.symm
  have nlD : l ≠ D := ne_of_none h1l hD
  have hDn : H D = none := by
    cases w' : H D with
    | none => rfl
    | some u => rw [B1 D u w' npD.symm] at hD; cases hD
  refine comp_range (fun i ys σ H2 => ∃ (ts : List Str) (v : Option V) (c2 : Int), σ = [some (.ref p), some (.ref l), none, v] ∧ ys = ts.map V.str ∧ ts.length = i ∧ (∀ s ∈ ts, s.length ≤ 1 ∧ AZ s) ∧ Left H2 p c2 ∧ c + 1 ≤ c2 ∧ c2 ≤ c + 1 + i ∧
      H2 D = some (.lst ys) ∧ But p H H2) ?_ ?_ ?_
  · refine ⟨[], none, c + 1, rfl, rfl, rfl, (fun s hs => by cases hs), ?_, by omega, by omega, upd_same, ?_⟩
    · obtain ⟨a, b, hp, q0⟩ := L1
      exact ⟨a, b, by rw [upd_ne npD]; exact hp, q0⟩
    · intro b o e n
      rw [upd_ne (ne_of_none e hDn)]
      exact B1 b o e n
  · rintro i ys σ H2 hi ⟨ts, v, c2, rfl, rfl, hn, hs, L2', b1, b2, hD2, B2⟩
    refine ⟨_, rfl, p, c2, _, rfl, L2', by omega, by decide, by decide, fun r' H3 r0' r1' L3 B3 => ?_⟩
    obtain ⟨ch, hcm, hch⟩ := at_code (z := "ababcz") r0' r1'
    have hD3 : H3 D = some (.lst (ts.map V.str)) := B3 D _ hD2 npD.symm
    refine ⟨_, _, _, rfl, rfl, (by decide +kernel), hch, hD3, (by rw [List.length_map, hn]; exact small1000 (by omega)), ts ++ [⟨#[ch]⟩], _, c2 + 1, rfl, ?_, ?_, ?_, ?_, by omega, by omega, upd_same, ?_⟩
    · rw [List.map_append]; rfl
    · rw [List.length_append, hn]; rfl
    · intro x hx
      rcases List.mem_append.mp hx with hx | hx
      · exact hs x hx
      · rw [List.mem_singleton.mp hx]; exact ⟨Nat.le_refl 1, az_six.one hcm⟩
    · obtain ⟨a, b, hp, q0⟩ := L3
      exact ⟨a, b, by rw [upd_ne npD]; exact hp, q0⟩
    · intro b o e n
      rw [upd_ne (ne_of_none e hDn)]
      exact B3 b o (B2 b o e n) n
  · rintro ys σ H2 ⟨ts, v, c2, rfl, rfl, hn, hs, L2', b1, b2, hD2, B2⟩
    have hsum := sum_ones ts fun s h => (hs s h).1
    have hjl := join_len "" ts
    have e0 : ("" : Str).length = 0 := by decide +kernel
    rw [e0] at hjl
    have hl2 := B2 l _ hl npl.symm
    refine ⟨_, D, ts, rfl, rfl, SqL.of hD2, (by rw [e0]; omega), ?_⟩
    have hlen : (((ss.map V.str).length : Nat) : Int) = (ss.length : Int) := by rw [List.length_map]
    refine ⟨_, rfl, _, rfl, _, rfl, l, _, rfl, .inl (SqL.of hl2), p, c2, _, rfl, L2', by omega, by omega, by omega, fun r' H3 r0' r1' L3 B3 => ?_⟩
    obtain ⟨st, hs1, hs2⟩ := at_str (ss := ss) r0' (by omega)
    have hst := (h24 st hs1).1
    refine ⟨l, _, _, _, rfl, rfl, SqL.of (B3 l _ hl2 npl.symm), hs2, _, rfl, _, _, rfl, rfl, small (by omega), ?_⟩
    refine q _ (c2 + 1) H3 ?_ ((h24 st hs1).2.app (AZ.joinT ts fun s h => (hs s h).2)) L3 (by omega) (by omega) (B2.trans B3)
    rw [PySem.Str.length_append]
    omega
theorem ok_alike_from (T : Tops K mg) : Df P w K mg base 1 "alike_from" ["one", "other", "far"] spAlikeFrom := by
  refine T.t_alike_from.df sc_alike_from (fun vs H Q E h => ?_) (fun cdv f A outer s H vs Q E hr h => ?_)
  · obtain ⟨x, y, far, rfl, _⟩ := h
    rfl
  obtain ⟨x, y, far, rfl, hx, hy, hf, q⟩ := h
  refine ⟨_, (@pss_cons _ _ _ _ _ (@ps_set _ _ 3 _ _ _ _ sc_alike_from.nd rfl (Or.inl rfl) (@pv _ 2 _ _ (by rfl) (Or.inl rfl) (by decide) (by decide)) (by rfl) (by first | exact .inl rfl | exact .inr rfl)) (@pss_cons _ _ _ _ _ (@ps_while _ _ _ _ _ _ PassesOwn.never (@PW.pt _ _ _ (@pw_and _ _ _ _ _ _ _ (@pt_cmpR _ _ _ _ _ _ _ _ op_lt (@pv _ 3 _ _ (by rfl) (Or.inl rfl) (by decide) (by decide)) (@pe_callB _ _ _ _ _ _ _ _ _ call_len_str (by rfl) T.b.n_len PySem.boot_len (@pa_cons _ _ _ _ _ (@pv _ 0 _ _ (by rfl) (Or.inl rfl) (by decide) (by decide)) (@pa_nil _) (by rfl)) (by decide) (by decide) (by rfl) (by rfl)) (nomark _)) (@pw_and _ _ _ _ _ _ _ (@pt_cmpR _ _ _ _ _ _ _ _ op_lt (@pv _ 3 _ _ (by rfl) (Or.inl rfl) (by decide) (by decide)) (@pe_callB _ _ _ _ _ _ _ _ _ call_len_str (by rfl) T.b.n_len PySem.boot_len (@pa_cons _ _ _ _ _ (@pv _ 1 _ _ (by rfl) (Or.inl rfl) (by decide) (by decide)) (@pa_nil _) (by rfl)) (by decide) (by decide) (by rfl) (by rfl)) (nomark _)) (@pw_and1 _ _ _ _ (@pt_cmpR _ _ _ _ _ _ _ _ op_eq (@pe_ix _ _ _ _ _ _ _ ix_str (@pv _ 0 _ _ (by rfl) (Or.inl rfl) (by decide) (by decide)) (@pv _ 3 _ _ (by rfl) (Or.inl rfl) (by decide) (by decide)) (fun _ _ => rfl)) (@pe_ix _ _ _ _ _ _ _ ix_str (@pv _ 1 _ _ (by rfl) (Or.inl rfl) (by decide) (by decide)) (@pv _ 3 _ _ (by rfl) (Or.inl rfl) (by decide) (by decide)) (fun _ _ => rfl)) (nomark _)))))) (@pss_one _ _ _ (@ps_aug _ _ 3 _ _ _ _ _ _ sc_alike_from.nd rfl (Or.inl rfl) (@pe_int _ _ _ _) ip_add (by first | exact .inl rfl | exact .inr rfl)))) (@pss_one _ _ _ (@ps_ret _ _ _ _ (@pv _ 3 _ _ (by rfl) (Or.inl rfl) (by decide) (by decide)))))), ?_⟩
  refine ⟨_, rfl, ?_⟩
  have lx : (cds x).length = x.length := by simp [Str.length]
  have ly : (cds y).length = y.length := by simp [Str.length]
  have ll := lcp_le (cds x) (cds y)
  refine ⟨fun m σ H2 => ∃ k : Nat, σ = [some (.str x), some (.str y), some (.int far), some (.int k)] ∧ H2 = H ∧ k ≤ lcp (cds x) (cds y) ∧ m = lcp (cds x) (cds y) - k, ⟨_, far, rfl, rfl, hf, rfl⟩, ?_⟩
  rintro m σ H2 ⟨k, rfl, rfl, hk, rfl⟩
  refine ⟨_, rfl, _, rfl, x, rfl, small hx, _, _, rfl, rfl, _, rfl, ?_⟩
  refine ite2 (fun d1 => ?_) (fun d1 => ?_)
  · have d1' : (k : Int) < (x.length : Int) := of_decide_eq_true d1
    refine ⟨_, rfl, _, rfl, y, rfl, small hy, _, _, rfl, rfl, _, rfl, ?_⟩
    refine ite2 (fun d2 => ?_) (fun d2 => ?_)
    · have d2' : (k : Int) < (y.length : Int) := of_decide_eq_true d2
      obtain ⟨a, ha, ha'⟩ := at_code (z := x) (k := k) (by omega) d1'
      obtain ⟨b, hb, hb'⟩ := at_code (z := y) (k := k) (by omega) d2'
      rw [Int.toNat_natCast] at ha hb
      refine ⟨_, rfl, _, rfl, x, _, a, rfl, rfl, small hx, ha', _, rfl, _, rfl, y, _, b, rfl, rfl, small hy, hb', rfl, _, rfl, ?_⟩
      refine ite2 (fun d3 => ?_) (fun d3 => ?_)
      · have d3' : a = b := by
          have := of_decide_eq_true d3
          injection this with e
          injection e with e
          simpa using e
        subst d3'
        have := lcp_on _ _ k hk a ha hb
        refine ⟨fun σ' H' => σ' = [some (.str x), some (.str y), some (.int far), some (.int ((k + 1 : Nat) : Int))] ∧ H' = H2, fun σ' H' ⟨e1, e2⟩ => ⟨_, ?_, k + 1, e1, e2, this, rfl⟩, ?_⟩
        · omega
        · exact ⟨_, rfl, _, _, rfl, rfl, rfl, rfl⟩
      · refine ⟨_, rfl, ?_⟩
        have e := lcp_end _ _ k hk (.inr (.inr ⟨a, b, ha, hb, fun e => d3 (by subst e; exact decide_eq_true rfl)⟩))
        rw [e] at q
        exact q
    · refine iteF ⟨_, rfl, ?_⟩
      have d2' : ¬ (k : Int) < (y.length : Int) := of_decide_eq_false (Bool.eq_false_iff.mpr d2)
      have e := lcp_end _ _ k hk (.inr (.inl (by omega)))
      rw [e] at q
      exact q
  · refine iteF ⟨_, rfl, ?_⟩
    have d1' : ¬ (k : Int) < (x.length : Int) := of_decide_eq_false (Bool.eq_false_iff.mpr d1)
    have e := lcp_end _ _ k hk (.inl (by omega))
    rw [e] at q
    exact q
theorem ok_alike (T : Tops K mg) (f_alike_from : Df P w K mg base 1 "alike_from" ["one", "other", "far"] spAlikeFrom) : Df P w K mg base 2 "alike" ["one", "other"] spAlike := by
  refine T.t_alike.df sc_alike (fun vs H Q E h => ?_) (fun cdv f A outer s H vs Q E hr h => ?_)
  · obtain ⟨x, y, rfl, _⟩ := h
    rfl
  obtain ⟨x, y, rfl, hx, hy, q⟩ := h
  refine ⟨_, (@pss_one _ _ _ (@ps_ret _ _ _ _ (@pe_df _ _ _ _ _ _ _ _ _ _ _ f_alike_from hr (@pa_cons _ _ _ _ _ (@pv _ 0 _ _ (by rfl) (Or.inl rfl) (by decide) (by decide)) (@pa_cons _ _ _ _ _ (@pv _ 1 _ _ (by rfl) (Or.inl rfl) (by decide) (by decide)) (@pa_cons _ _ _ _ _ (@pe_int _ _ _ _) (@pa_nil _) (by rfl)) (by rfl)) (by rfl)) (by first | decide | exact Nat.le_refl _ | omega) (by rfl) (by decide) (by rfl) (by rfl)))), ?_⟩
  exact ⟨_, rfl, _, rfl, x, y, 0, rfl, hx, hy, Nat.zero_le _, q⟩
theorem ok_l_alike (T : Tops K mg) : Df P w K mg base 1 "_law_alike" ["_law_one", "_law_other"] spAlike := by
  refine T.t_l_alike.df sc_l_alike (fun vs H Q E h => ?_) (fun cdv f A outer s H vs Q E hr h => ?_)
  · obtain ⟨x, y, rfl, _⟩ := h
    rfl
  obtain ⟨x, y, rfl, hx, hy, q⟩ := h
  refine ⟨_, (@pss_cons _ _ _ _ _ (@ps_set _ _ 2 _ _ _ _ sc_l_alike.nd rfl (Or.inl rfl) (@pe_int _ _ _ _) (by rfl) (by first | exact .inl rfl | exact .inr rfl)) (@pss_cons _ _ _ _ _ (@ps_while _ _ _ _ _ _ PassesOwn.never (@PW.pt _ _ _ (@pw_and _ _ _ _ _ _ _ (@pt_cmpR _ _ _ _ _ _ _ _ op_lt (@pv _ 2 _ _ (by rfl) (Or.inl rfl) (by decide) (by decide)) (@pe_callB _ _ _ _ _ _ _ _ _ call_len_str (by rfl) T.b.n_len PySem.boot_len (@pa_cons _ _ _ _ _ (@pv _ 0 _ _ (by rfl) (Or.inl rfl) (by decide) (by decide)) (@pa_nil _) (by rfl)) (by decide) (by decide) (by rfl) (by rfl)) (nomark _)) (@pw_and _ _ _ _ _ _ _ (@pt_cmpR _ _ _ _ _ _ _ _ op_lt (@pv _ 2 _ _ (by rfl) (Or.inl rfl) (by decide) (by decide)) (@pe_callB _ _ _ _ _ _ _ _ _ call_len_str (by rfl) T.b.n_len PySem.boot_len (@pa_cons _ _ _ _ _ (@pv _ 1 _ _ (by rfl) (Or.inl rfl) (by decide) (by decide)) (@pa_nil _) (by rfl)) (by decide) (by decide) (by rfl) (by rfl)) (nomark _)) (@pw_and1 _ _ _ _ (@pt_cmpR _ _ _ _ _ _ _ _ op_eq (@pe_ix _ _ _ _ _ _ _ ix_str (@pv _ 0 _ _ (by rfl) (Or.inl rfl) (by decide) (by decide)) (@pv _ 2 _ _ (by rfl) (Or.inl rfl) (by decide) (by decide)) (fun _ _ => rfl)) (@pe_ix _ _ _ _ _ _ _ ix_str (@pv _ 1 _ _ (by rfl) (Or.inl rfl) (by decide) (by decide)) (@pv _ 2 _ _ (by rfl) (Or.inl rfl) (by decide) (by decide)) (fun _ _ => rfl)) (nomark _)))))) (@pss_one _ _ _ (@ps_set _ _ 2 _ _ _ _ sc_l_alike.nd rfl (Or.inl rfl) (@pe_op _ _ _ _ _ _ _ _ op_add (@pv _ 2 _ _ (by rfl) (Or.inl rfl) (by decide) (by decide)) (@pe_int _ _ _ _)) (by rfl) (by first | exact .inl rfl | exact .inr rfl)))) (@pss_one _ _ _ (@ps_ret _ _ _ _ (@pv _ 2 _ _ (by rfl) (Or.inl rfl) (by decide) (by decide)))))), ?_⟩
  have lx : (cds x).length = x.length := by simp [Str.length]
  have ly : (cds y).length = y.length := by simp [Str.length]
  have ll := lcp_le (cds x) (cds y)
  refine ⟨fun m σ H2 => ∃ k : Nat, σ = [some (.str x), some (.str y), some (.int k)] ∧ H2 = H ∧ k ≤ lcp (cds x) (cds y) ∧ m = lcp (cds x) (cds y) - k, ⟨_, 0, rfl, rfl, Nat.zero_le _, rfl⟩, ?_⟩
  rintro m σ H2 ⟨k, rfl, rfl, hk, rfl⟩
  refine ⟨_, rfl, _, rfl, x, rfl, small hx, _, _, rfl, rfl, _, rfl, ?_⟩
  refine ite2 (fun d1 => ?_) (fun d1 => ?_)
  · have d1' : (k : Int) < (x.length : Int) := of_decide_eq_true d1
    refine ⟨_, rfl, _, rfl, y, rfl, small hy, _, _, rfl, rfl, _, rfl, ?_⟩
    refine ite2 (fun d2 => ?_) (fun d2 => ?_)
    · have d2' : (k : Int) < (y.length : Int) := of_decide_eq_true d2
      obtain ⟨a, ha, ha'⟩ := at_code (z := x) (k := k) (by omega) d1'
      obtain ⟨b, hb, hb'⟩ := at_code (z := y) (k := k) (by omega) d2'
      rw [Int.toNat_natCast] at ha hb
      refine ⟨_, rfl, _, rfl, x, _, a, rfl, rfl, small hx, ha', _, rfl, _, rfl, y, _, b, rfl, rfl, small hy, hb', rfl, _, rfl, ?_⟩
      refine ite2 (fun d3 => ?_) (fun d3 => ?_)
      · have d3' : a = b := by
          have := of_decide_eq_true d3
          injection this with e
          injection e with e
          simpa using e
        subst d3'
        have := lcp_on _ _ k hk a ha hb
        refine ⟨fun σ' H' => σ' = [some (.str x), some (.str y), some (.int ((k + 1 : Nat) : Int))] ∧ H' = H2, fun σ' H' ⟨e1, e2⟩ => ⟨_, ?_, k + 1, e1, e2, this, rfl⟩, ?_⟩
        · omega
        · exact ⟨_, rfl, _, _, rfl, rfl, rfl, rfl⟩
      · refine ⟨_, rfl, ?_⟩
        have e := lcp_end _ _ k hk (.inr (.inr ⟨a, b, ha, hb, fun e => d3 (by subst e; exact decide_eq_true rfl)⟩))
        rw [e] at q
        exact q
    · refine iteF ⟨_, rfl, ?_⟩
      have d2' : ¬ (k : Int) < (y.length : Int) := of_decide_eq_false (Bool.eq_false_iff.mpr d2)
      have e := lcp_end _ _ k hk (.inr (.inl (by omega)))
      rw [e] at q
      exact q
  · refine iteF ⟨_, rfl, ?_⟩
    have d1' : ¬ (k : Int) < (x.length : Int) := of_decide_eq_false (Bool.eq_false_iff.mpr d1)
    have e := lcp_end _ _ k hk (.inl (by omega))
    rw [e] at q
    exact q
theorem iteD {c A B : Prop} [Decidable c] (hc : c) (h : A) : if decide c = true then A else B := by
  rw [if_pos (decide_eq_true hc)]
  exact h
theorem iteDN {c A B : Prop} [Decidable c] (hc : ¬ c) (h : B) : if decide c = true then A else B := by
  rw [if_neg (by rw [decide_eq_false hc]; exact Bool.false_ne_true)]
  exact h
theorem Left.new {H : Hp} {p l : Addr} {c : Int} {o : HO} (h : Left H p c) (n : H l = none) : Left (upd H l o) p c := by
  obtain ⟨a, b, hp, c0⟩ := h
  exact ⟨a, b, by rw [upd_ne (ne_of_none hp n)]; exact hp, c0⟩
theorem Left.ge {H : Hp} {p : Addr} {c : Int} (h : Left H p c) : 0 ≤ c := by obtain ⟨a, b, hp, c0⟩ := h; exact c0
theorem Left.here {H : Hp} {p : Addr} {c : Int} (h : Left H p c) : ∃ o, H p = some o := by obtain ⟨a, b, hp, c0⟩ := h; exact ⟨_, hp⟩
theorem Left.at {H : Hp} {p l : Addr} {c : Int} {o : HO} (h : Left H p c) (n : p ≠ l) : Left (upd H l o) p c := by
  obtain ⟨a, b, hp, c0⟩ := h
  exact ⟨a, b, by rw [upd_ne n]; exact hp, c0⟩
theorem Left.same {H H' : Hp} {p : Addr} {c : Int} (h : Left H p c) (s : Same H H') : Left H' p c := by obtain ⟨b1, b2, hb, c0⟩ := h; exact ⟨b1, b2, s _ _ hb, c0⟩
theorem free_of {p : Addr} {H H1 : Hp} {l : Addr} (B : But p H H1) (n : p ≠ l) (h : H1 l = none) : H l = none := by
  cases w' : H l with
  | none => rfl
  | some u => rw [B l u w' n.symm] at h; cases h
theorem iteNN {c A B : Prop} [Decidable c] (hc : ¬ c) (h : A) : if (!decide c) = true then A else B := by
  rw [if_pos (by rw [decide_eq_false hc]; rfl)]
  exact h
theorem at_intM {ns : List Int} {k : Int} (h0 : 0 ≤ k) (h : k < (ns.length : Int)) : ∃ v ∈ ns, atI (ns.map V.int) k = some (.int v) := by
  have hk : k.toNat < ns.length := by omega
  have ek : k = ((k.toNat : Nat) : Int) := by omega
  have q : atI (ns.map V.int) ((k.toNat : Nat) : Int) = some (.int ns[k.toNat]) := atI_nat (by rw [List.getElem?_map, List.getElem?_eq_getElem hk] <;> rfl)
  rw [← ek] at q
  exact ⟨_, List.getElem_mem hk, q⟩
theorem lay_ints : ∀ ns : List Int, PyData.canLayAll0 (ns.map PyData.int) = true
  | [] => rfl
  | x :: r => by simp [PyData.canLayAll0, PyData.canLay0, lay_ints r]
theorem depth_ints : ∀ ns : List Int, PyData.depthAll (ns.map PyData.int) = 0
  | [] => rfl
  | _ :: r => by simp [PyData.depthAll, PyData.depth, depth_ints r]
theorem shaped_ints (ns : List Int) : SeqAt.shaped (.list (ns.map PyData.int)) = true := by simp [SeqAt.shaped, PyData.canLay0, PyData.depth, lay_ints ns, depth_ints]
theorem dv_ints {K : PySem.W.Frag} {H : Hp} : ∀ ns : List Int, DVs K H (ns.map V.int) (ns.map PyData.int)
  | [] => .nil
  | s :: r => .cons (.int s) (dv_ints r)
theorem comp_listF {K : PySem.W.Frag} {a : Addr} {xs : List V} {k : Nat} {D : Addr} {σ : L2.St} {H1 : Hp} {g : TG} {tc : TT} {te : TE} {Q : VK} (Pv : Nat → List V → L2.St → Hp → Prop) (h0 : Pv 0 [] (σ ++ List.replicate k none) (upd H1 D (.lst [])))
    (hl : ∀ i ys σ H, Pv i ys σ H → SqL K H a xs)
    (hs : ∀ i x ys σ H, xs[i]? = some x → Pv i ys σ H → g x σ H fun σ4 H4 => tc σ4 H4 fun b H5 => if b = true then te σ4 H5 fun y H6 => H6 D = some (.lst ys) ∧ ys.length < sizeLine ∧ Pv (i + 1) (ys ++ [y]) σ4 (upd H6 D (.lst (ys ++ [y]))) else Pv (i + 1) ys σ4 H5)
    (hd : ∀ ys σ H, Pv xs.length ys σ H → Q (.ref D) H) : CompGo (Itl K a) D k σ H1 g tc te Q := by
  refine ⟨fun i m ys σ H => m = xs.length - i ∧ i ≤ xs.length ∧ Pv i ys σ H, ⟨xs.length, by simp, Nat.zero_le _, h0⟩, ?_⟩
  rintro i m ys σ H ⟨rfl, hi, p⟩
  have q1 := hl i ys σ H p
  by_cases hlt : i < xs.length
  · refine .inr ⟨⟨xs, xs[i], q1, List.getElem?_eq_getElem hlt⟩, Pv (i + 1), fun ys' σ' H' p' => ⟨xs.length - (i + 1), by omega, rfl, hlt, p'⟩, fun x H' y => ?_⟩
    obtain ⟨rfl, e⟩ := y
    exact hs i x ys σ _ (e xs q1) p
  · have e : i = xs.length := by omega
    exact .inl ⟨⟨xs, q1, by omega⟩, hd ys σ H (e ▸ p)⟩
/-- heads: where it stands, the row, its key -/
abbrev HeadL := List (Addr × Int × Option Str)
def optV : Option Str → V
  | none => .non
  | some z => .str z
def optD : Option Str → PyData
  | none => .none
  | some z => .str z
def hrefs (hs : HeadL) : List V := hs.map fun h => V.ref h.1
def AtH (H : Hp) (hs : HeadL) : Prop := ∀ h ∈ hs, H h.1 = some (.tup [.int h.2.1, optV h.2.2])
def KeyOk (hs : HeadL) : Prop := ∀ h ∈ hs, ∀ z, h.2.2 = some z → z.length ≤ 28 ∧ AZ z
/-- those with keys -/
def keyed (hs : HeadL) : List (Str × Int) := hs.filterMap fun h => h.2.2.map fun z => (z, h.2.1)
def kk (e : Str × Int) : List Key := [.inr e.1, .inl e.2]
theorem kk_shape (e : Str × Int) : shape (kk e) = [false, true] := rfl
theorem kk_inj {e f : Str × Int} (h : kk e = kk f) : e = f := by
  obtain ⟨a, b⟩ := e
  obtain ⟨c, d⟩ := f
  unfold kk at h
  injection h with h1 h2
  injection h2 with h2 _
  have e1 : a = c := Sum.inr.inj h1
  have e2 : b = d := Sum.inl.inj h2
  rw [e1, e2]
theorem AtH.mono {H H' : Hp} {hs : HeadL} (h : AtH H hs) (s : Same H H') : AtH H' hs := fun x hx => s _ _ (h x hx)
theorem AtT.mono {H H' : Hp} {ts : TupL} (h : AtT H ts) (s : Same H H') : AtT H' ts := fun x hx => s _ _ (h x hx)
/-- the least one, None of none -/
def IsNext (E : List (Str × Int)) (v : V) : Prop := (E = [] ∧ v = .non) ∨ ∃ e ∈ E, (∀ u ∈ E, lexB (kk u) (kk e) = false) ∧ v = .int e.2
theorem keyed_take (hs : HeadL) (i : Nat) {h : Addr × Int × Option Str} (e : hs[i]? = some h) : keyed (hs.take (i + 1)) = keyed (hs.take i) ++ (match h.2.2 with | none => [] | some z => [(z, h.2.1)]) := by
  unfold keyed
  rw [List.take_add_one, e, List.filterMap_append]
  congr 1
  cases hz : h.2.2 with
  | none => simp [hz]
  | some z => simp [hz]
theorem keyed_len (hs : HeadL) : (keyed hs).length ≤ hs.length := List.length_filterMap_le _ _
theorem href_at {hs : HeadL} {i : Nat} {x : V} (h : (hrefs hs)[i]? = some x) : ∃ y, hs[i]? = some y ∧ x = .ref y.1 := by
  unfold hrefs at h
  rw [List.getElem?_map] at h
  cases hy : hs[i]? with
  | none => rw [hy] at h; cases h
  | some y => rw [hy] at h; cases h; exact ⟨y, rfl, rfl⟩
/-- the list of (key, row) that a comprehension makes, half way -/
def Made (E : List (Str × Int)) (zs : List V) (H0 H : Hp) : Prop := ∃ ts : TupL, zs = refs ts ∧ AtT H ts ∧ ts.map (·.2) = E.map kk ∧ ∀ t ∈ ts, H0 t.1 = none
theorem made_add {E : List (Str × Int)} {zs : List V} {H0 H H' : Hp} {e : Str × Int} {n : Addr} (m : Made E zs H0 H) (k : ∀ a xs, H a = some (.tup xs) → H' a = some (.tup xs)) (hn : H' n = some (.tup [.str e.1, .int e.2])) (h0 : H0 n = none) : Made (E ++ [e]) (zs ++ [.ref n]) H0 H' := by
  obtain ⟨ts, rfl, ha, hE, hf⟩ := m
  refine ⟨ts ++ [(n, kk e)], ?_, fun t ht => ?_, ?_, fun t ht => ?_⟩
  · unfold refs; rw [List.map_append]; rfl
  · rcases List.mem_append.mp ht with ht | ht
    · exact k _ _ (ha t ht)
    · rw [List.mem_singleton.mp ht]; exact hn
  · rw [List.map_append, List.map_append, hE]; rfl
  · rcases List.mem_append.mp ht with ht | ht
    · exact hf t ht
    · rw [List.mem_singleton.mp ht]; exact h0
theorem Made.shape {E : List (Str × Int)} {ts : TupL} (hE : ts.map (·.2) = E.map kk) : ∀ t ∈ ts, L2.shape t.2 = [false, true] := fun t ht => by
  have : t.2 ∈ E.map kk := by rw [← hE]; exact List.mem_map_of_mem ht
  obtain ⟨e, _, he⟩ := List.mem_map.mp this
  rw [← he]; rfl
/-- what min finds of it -/
theorem made_min {E : List (Str × Int)} {ts : TupL} (hE : ts.map (·.2) = E.map kk) {t : Addr × List Key} (ht : t ∈ ts) (hm : ∀ u ∈ ts, lexB u.2 t.2 = false) : ∃ e ∈ E, t.2 = kk e ∧ ∀ u ∈ E, lexB (kk u) (kk e) = false := by
  have : t.2 ∈ E.map kk := by rw [← hE]; exact List.mem_map_of_mem ht
  obtain ⟨e, he, h2⟩ := List.mem_map.mp this
  refine ⟨e, he, h2.symm, fun u hu => ?_⟩
  have : kk u ∈ ts.map (·.2) := by rw [hE]; exact List.mem_map_of_mem hu
  obtain ⟨t', ht', e'⟩ := List.mem_map.mp this
  rw [← e', h2]; exact hm t' ht'
def spNext (K : PySem.W.Frag) : Sp := fun vs H Q _ => ∃ (a : Addr) (hs : HeadL), vs = [.ref a] ∧ SqL K H a (hrefs hs) ∧ AtH H hs ∧ hs.length ≤ 100 ∧ ∀ (v : V) (H' : Hp), IsNext (keyed hs) v → Same H H' → Q v H'
theorem tup_keep {H : Hp} {D : Addr} {ys : List V} (h : H D = some (.lst ys)) (o : HO) : ∀ a xs, H a = some (.tup xs) → (upd H D o) a = some (.tup xs) := fun a xs e => by
  have nb : a ≠ D := by intro z; rw [z, h] at e; cases e
  rw [upd_ne nb]; exact e
theorem ok_next (T : Tops K mg) : Df P w K mg base 1 "next_of" ["heads"] (spNext K) := by
  refine T.t_next_of.df sc_next_of (fun vs H Q E h => ?_) (fun cdv f A outer s H vs Q E hr h => ?_)
  · obtain ⟨a, hs, rfl, _⟩ := h
    rfl
  obtain ⟨a, hs, rfl, hS, hA, hn, q⟩ := h
  refine ⟨_, (@pss_cons _ _ _ _ _ (@ps_set _ _ 1 _ _ _ _ sc_next_of.nd rfl (Or.inl rfl) (@pe_minD _ _ _ _ _ _ _ _ K hr (by rfl) T.b.n_min (@pa_cons _ _ _ _ _ (@pe_comp _ _ _ _ _ _ _ _ _ _ _ _ _ _ cs_2 rfl rfl rfl (@iL _ K _ _ _ (@pv _ 0 _ _ (by rfl) (Or.inl rfl) (by decide) (by decide)) (by rfl)) (fun _ _ _ _ => (@gT _ K _ _ _ 2 _ (@pgs_cons _ _ _ _ _ (@cg _ _ _ _ _ _ _ _ _ _ _ 2 cs_2 rfl (by decide +kernel) (by rfl)) (@pgs_cons _ _ _ _ _ (@cg _ _ _ _ _ _ _ _ _ _ _ 3 cs_2 rfl (by decide +kernel) (by rfl)) (@pgs_nil _) (by rfl)) (by rfl)) (by rfl) (by rfl) (by rfl) (by rfl))) (fun _ _ _ _ => (@pts_one _ _ _ (@pt_cmpR _ _ _ _ _ _ _ _ op_notN (@cw _ _ _ _ _ _ _ _ _ _ _ 3 cs_2 rfl (by decide +kernel) (by rfl) (by decide) (by decide)) (@pe_non _ _ _) (nomark _)))) (fun _ _ _ _ => (@pe_tup _ _ _ _ _ (@pa_cons _ _ _ _ _ (@cw _ _ _ _ _ _ _ _ _ _ _ 3 cs_2 rfl (by decide +kernel) (by rfl) (by decide) (by decide)) (@pa_cons _ _ _ _ _ (@cw _ _ _ _ _ _ _ _ _ _ _ 2 cs_2 rfl (by decide +kernel) (by rfl) (by decide) (by decide)) (@pa_nil _) (by rfl)) (by rfl)))) (by intro _; rfl)) (@pa_nil _) (by rfl)) (@pe_non _ _ _) (by rfl) (by rfl) (by rfl) (by rfl)) (by rfl) (by first | exact .inl rfl | exact .inr rfl)) (@pss_one _ _ _ (@ps_ret _ _ _ _ (@pe_ifExp _ _ _ _ _ _ _ _ (@pt_cmpR _ _ _ _ _ _ _ _ op_isN (@pv _ 1 _ _ (by rfl) (Or.inl rfl) (by decide) (by decide)) (@pe_non _ _ _) (nomark _)) (@pe_non _ _ _) (@pe_ix _ _ _ _ _ _ _ (ixT K) (@pv _ 1 _ _ (by rfl) (Or.inl rfl) (by decide) (by decide)) (@pe_int _ _ _ _) (fun _ _ => rfl)))))), ?_⟩
  refine ⟨_, rfl, a, rfl, ⟨_, hS⟩, fun D hD => ?_⟩
  refine comp_listF (K := K) (a := a) (xs := hrefs hs) (fun i zs σ H2 => (∃ v2 v3 : Option V, σ = [some (.ref a), none, v2, v3]) ∧ Made (keyed (hs.take i)) zs H H2 ∧ zs.length ≤ i ∧ i ≤ hs.length ∧ H2 D = some (.lst zs) ∧ Same H H2) ?_ (fun _ _ _ _ h => h.2.2.2.2.2.seq hS) ?_ ?_
  · exact ⟨⟨none, none, rfl⟩, ⟨[], rfl, fun t h => (by cases h), rfl, fun t h => (by cases h)⟩, Nat.le_refl _, Nat.zero_le _, upd_same, same_new hD _⟩
  · rintro i x zs σ H2 hx ⟨⟨v2, v3, rfl⟩, m, hzl, hi, hD2, s2⟩
    obtain ⟨h, hh, rfl⟩ := href_at hx
    have hil : i < hs.length := (List.getElem?_eq_some_iff.mp hh).1
    have hH := hA.mono s2 h (List.mem_of_getElem? hh)
    refine ⟨h.1, _, rfl, SqT.of hH, rfl, _, _, rfl, _, _, rfl, rfl, ?_⟩
    have kt := keyed_take hs i hh
    cases hz : h.2.2 with
    | none =>
      rw [hz] at kt
      refine ⟨_, rfl, rfl, _, rfl, iteNS rfl ⟨⟨_, _, rfl⟩, ?_, by omega, hil, hD2, s2⟩⟩
      rw [kt, List.append_nil]; exact m
    | some z =>
      rw [hz] at kt
      refine ⟨_, rfl, rfl, _, rfl, iteNN (by intro e; cases e) ?_⟩
      refine ⟨_, rfl, _, rfl, (by show 2 ≤ sizeLine; decide), fun n hn0 => ?_⟩
      have sn := same_new hn0 (.tup [.str z, .int h.2.1])
      have hD3 := sn _ _ hD2
      have nDn : D ≠ n := ne_of_none hD2 hn0
      refine ⟨hD3, small1000 (by omega), ⟨_, _, rfl⟩, ?_, by rw [List.length_append, List.length_singleton]; omega, hil, upd_same, fun b o hb => ?_⟩
      · rw [kt]
        refine made_add m (fun b xs hb => ?_) ?_ (s2.free hn0)
        · exact tup_keep hD3 _ b xs (sn _ _ hb)
        · rw [upd_ne nDn.symm]; exact upd_same
      · rw [upd_ne (ne_of_none hb hD)]; exact sn _ _ (s2 b o hb)
  · rintro zs σ H2 ⟨⟨v2, v3, rfl⟩, ⟨ts, rfl, hat, hE, hfr⟩, hzl, hi, hD2, s2⟩
    rw [show (hrefs hs).length = hs.length from List.length_map _, List.take_of_length_le (Nat.le_refl _)] at hE
    refine ⟨D, ts, [false, true], rfl, SqL.of hD2, hat, Made.shape hE, fun h0 => ?_, fun t ht hm => ?_⟩
    · refine ⟨_, rfl, rfl, _, rfl, iteD rfl (q _ _ (.inl ⟨?_, rfl⟩) s2)⟩
      rw [h0] at hE
      cases hk : keyed hs with
      | nil => rfl
      | cons _ _ => rw [hk] at hE; cases hE
    · obtain ⟨e, he, h2, hmin⟩ := made_min hE ht hm
      have ht2 := hat t ht
      rw [h2] at ht2
      refine ⟨_, rfl, rfl, _, rfl, iteDN (by intro z; cases z) ⟨_, rfl, t.1, _, _, _, rfl, rfl, SqT.of ht2, rfl, q _ _ (.inr ⟨e, he, hmin, rfl⟩) s2⟩⟩
def headD (h : Addr × Int × Option Str) : PyData := .tuple [.int h.2.1, optD h.2.2]
theorem dv_opt {K : PySem.W.Frag} {H : Hp} : ∀ o : Option Str, DV K H (optV o) (optD o)
  | none => .non
  | some z => .str z
theorem dv_heads {K : PySem.W.Frag} {H : Hp} : ∀ hs : HeadL, AtH H hs → DVs K H (hrefs hs) (hs.map headD)
  | [], _ => .nil
  | h :: r, ha => .cons (.tup (SqT.of (ha h (by simp))) (.cons (.int _) (.cons (dv_opt _) .nil))) (dv_heads r fun x hx => ha x (List.mem_cons_of_mem _ hx))
theorem lay_heads : ∀ hs : HeadL, KeyOk hs → PyData.canLayAll0 (hs.map headD) = true ∧ PyData.depthAll (hs.map headD) ≤ 1
  | [], _ => ⟨rfl, Nat.zero_le _⟩
  | h :: r, hk => by
    obtain ⟨a, b⟩ := lay_heads r fun x hx => hk x (List.mem_cons_of_mem _ hx)
    have hd : (headD h).canLay0 = true ∧ (headD h).depth = 1 := by
      unfold headD
      cases hz : h.2.2 with
      | none => exact ⟨by simp [PyData.canLay0, PyData.canLayAll0, optD], by simp [PyData.depth, PyData.depthAll, optD]⟩
      | some z => exact ⟨by simp [PyData.canLay0, PyData.canLayAll0, optD, (hk h (by simp) z hz).2.ok], by simp [PyData.depth, PyData.depthAll, optD]⟩
    refine ⟨by simp [PyData.canLayAll0, hd.1, a], ?_⟩
    show max (headD h).depth (PyData.depthAll (r.map headD)) ≤ 1
    omega
theorem shaped_heads (hs : HeadL) (hk : KeyOk hs) : SeqAt.shaped (.list (hs.map headD)) = true := by
  obtain ⟨a, b⟩ := lay_heads hs hk
  simp [SeqAt.shaped, PyData.canLay0, PyData.depth, a]
  omega
def Rise (hs : HeadL) : Prop := hs.Pairwise fun a b => a.2.1 < b.2.1
def spHeads : Sp := fun vs H Q _ => ∃ (p : Addr) (c : Int), vs = [.ref p] ∧ Left H p c ∧ c < 2 ^ 30 ∧
  ∀ (r : Addr) (hs : HeadL) (c' : Int) (H' : Hp), H r = none → H' r = some (.lst (hrefs hs)) → AtH H' hs → hs.length ≤ 16 → KeyOk hs → Rise hs → Left H' p c' → c ≤ c' → c' ≤ c + 400 → But p H H' → Q (.ref r) H'
theorem ok_heads (T : Tops K mg) (f_l_pick : Df P w K mg base 2 "_law_pick" ["_law_left_here", "_law_many"] spPick) (f_l_stems : Df P w K mg base 3 "_law_stems" ["_law_left_here"] spStems) (f_l_key : Df P w K mg base 3 "_law_key" ["_law_left_here", "_law_stems_here"] spKey) : Df P w K mg base 4 "_law_heads" ["_law_left_here"] spHeads := by
  refine T.t_l_heads.df sc_l_heads (fun vs H Q E h => ?_) (fun cdv f A outer s H vs Q E hr h => ?_)
  · obtain ⟨p, c, rfl, _⟩ := h
    rfl
  obtain ⟨p, c, rfl, hL, c1, q⟩ := h
  refine ⟨_, (@pss_cons _ _ _ _ _ (@ps_set _ _ 1 _ _ _ _ sc_l_heads.nd rfl (Or.inl rfl) (@pe_df _ _ _ _ _ _ _ _ _ _ _ f_l_stems hr (@pa_cons _ _ _ _ _ (@pv _ 0 _ _ (by rfl) (Or.inl rfl) (by decide) (by decide)) (@pa_nil _) (by rfl)) (by first | decide | exact Nat.le_refl _ | omega) (by rfl) (by decide) (by rfl) (by rfl)) (by rfl) (by first | exact .inl rfl | exact .inr rfl)) (@pss_cons _ _ _ _ _ (@ps_set _ _ 2 _ _ _ _ sc_l_heads.nd rfl (Or.inl rfl) (@pe_ix _ _ _ _ _ _ _ (ixL K) (@pe_lst _ _ _ _ (@pa_cons _ _ _ _ _ (@pe_int _ _ _ _) (@pa_cons _ _ _ _ _ (@pe_int _ _ _ _) (@pa_cons _ _ _ _ _ (@pe_int _ _ _ _) (@pa_cons _ _ _ _ _ (@pe_int _ _ _ _) (@pa_cons _ _ _ _ _ (@pe_int _ _ _ _) (@pa_cons _ _ _ _ _ (@pe_int _ _ _ _) (@pa_cons _ _ _ _ _ (@pe_int _ _ _ _) (@pa_cons _ _ _ _ _ (@pe_int _ _ _ _) (@pa_cons _ _ _ _ _ (@pe_int _ _ _ _) (@pa_cons _ _ _ _ _ (@pe_int _ _ _ _) (@pa_cons _ _ _ _ _ (@pe_int _ _ _ _) (@pa_cons _ _ _ _ _ (@pe_op _ _ _ _ _ _ _ _ op_add (@pe_int _ _ _ _) (@pe_df _ _ _ _ _ _ _ _ _ _ _ f_l_pick hr (@pa_cons _ _ _ _ _ (@pv _ 0 _ _ (by rfl) (Or.inl rfl) (by decide) (by decide)) (@pa_cons _ _ _ _ _ (@pe_int _ _ _ _) (@pa_nil _) (by rfl)) (by rfl)) (by first | decide | exact Nat.le_refl _ | omega) (by rfl) (by decide) (by rfl) (by rfl))) (@pa_nil _) (by rfl)) (by rfl)) (by rfl)) (by rfl)) (by rfl)) (by rfl)) (by rfl)) (by rfl)) (by rfl)) (by rfl)) (by rfl)) (by rfl))) (@pe_df _ _ _ _ _ _ _ _ _ _ _ f_l_pick hr (@pa_cons _ _ _ _ _ (@pv _ 0 _ _ (by rfl) (Or.inl rfl) (by decide) (by decide)) (@pa_cons _ _ _ _ _ (@pe_int _ _ _ _) (@pa_nil _) (by rfl)) (by rfl)) (by first | decide | exact Nat.le_refl _ | omega) (by rfl) (by decide) (by rfl) (by rfl)) (fun _ _ => rfl)) (by rfl) (by first | exact .inl rfl | exact .inr rfl)) (@pss_cons _ _ _ _ _ (@ps_set _ _ 3 _ _ _ _ sc_l_heads.nd rfl (Or.inl rfl) (@pe_lst _ _ _ _ (@pa_nil _)) (by rfl) (by first | exact .inl rfl | exact .inr rfl)) (@pss_cons _ _ _ _ _ (@ps_set _ _ 4 _ _ _ _ sc_l_heads.nd rfl (Or.inl rfl) (@pe_df _ _ _ _ _ _ _ _ _ _ _ f_l_pick hr (@pa_cons _ _ _ _ _ (@pv _ 0 _ _ (by rfl) (Or.inl rfl) (by decide) (by decide)) (@pa_cons _ _ _ _ _ (@pe_int _ _ _ _) (@pa_nil _) (by rfl)) (by rfl)) (by first | decide | exact Nat.le_refl _ | omega) (by rfl) (by decide) (by rfl) (by rfl)) (by rfl) (by first | exact .inl rfl | exact .inr rfl)) (@pss_cons _ _ _ _ _ (@ps_for _ _ _ _ _ _ _ _ PassesOwn.never rfl (@pi_range1 _ _ _ _ _ _ rfl T.b.n_range (@pa_cons _ _ _ _ _ (@pv _ 2 _ _ (by rfl) (Or.inl rfl) (by decide) (by decide)) (@pa_nil _) (by rfl)) (by rfl)) (@pg_name _ _ 5 _ sc_l_heads.nd rfl (Or.inl rfl) (by first | exact .inl rfl | exact .inr rfl)) (@pss_cons _ _ _ _ _ (@ps_set _ _ 6 _ _ _ _ sc_l_heads.nd rfl (Or.inl rfl) (@pe_df _ _ _ _ _ _ _ _ _ _ _ f_l_key hr (@pa_cons _ _ _ _ _ (@pv _ 0 _ _ (by rfl) (Or.inl rfl) (by decide) (by decide)) (@pa_cons _ _ _ _ _ (@pv _ 1 _ _ (by rfl) (Or.inl rfl) (by decide) (by decide)) (@pa_nil _) (by rfl)) (by rfl)) (by first | decide | exact Nat.le_refl _ | omega) (by rfl) (by decide) (by rfl) (by rfl)) (by rfl) (by first | exact .inl rfl | exact .inr rfl)) (@pss_cons _ _ _ _ _ (@ps_if _ _ _ _ _ _ _ _ (@PW.pt _ _ _ (@pw_and _ _ _ _ _ _ _ (@pt_cmpR _ _ _ _ _ _ _ _ (@neD _ K _ hr (by rfl)) (@pv _ 3 _ _ (by rfl) (Or.inl rfl) (by decide) (by decide)) (@pe_lst _ _ _ _ (@pa_nil _)) (nomark _)) (@pw_and1 _ _ _ _ (@pt_cmpR _ _ _ _ _ _ _ _ op_eq (@pe_df _ _ _ _ _ _ _ _ _ _ _ f_l_pick hr (@pa_cons _ _ _ _ _ (@pv _ 0 _ _ (by rfl) (Or.inl rfl) (by decide) (by decide)) (@pa_cons _ _ _ _ _ (@pe_int _ _ _ _) (@pa_nil _) (by rfl)) (by rfl)) (by first | decide | exact Nat.le_refl _ | omega) (by rfl) (by decide) (by rfl) (by rfl)) (@pe_int _ _ _ _) (nomark _))))) (@pss_one _ _ _ (@ps_set _ _ 6 _ _ _ _ sc_l_heads.nd rfl (Or.inl rfl) (@pe_ix _ _ _ _ _ _ _ (ixT K) (@pe_ix _ _ _ _ _ _ _ (ixL K) (@pv _ 3 _ _ (by rfl) (Or.inl rfl) (by decide) (by decide)) (@pe_df _ _ _ _ _ _ _ _ _ _ _ f_l_pick hr (@pa_cons _ _ _ _ _ (@pv _ 0 _ _ (by rfl) (Or.inl rfl) (by decide) (by decide)) (@pa_cons _ _ _ _ _ (@pe_callB _ _ _ _ _ _ _ _ _ (lenQ K) (by rfl) T.b.n_len PySem.boot_len (@pa_cons _ _ _ _ _ (@pv _ 3 _ _ (by rfl) (Or.inl rfl) (by decide) (by decide)) (@pa_nil _) (by rfl)) (by decide) (by decide) (by rfl) (by rfl)) (@pa_nil _) (by rfl)) (by rfl)) (by first | decide | exact Nat.le_refl _ | omega) (by rfl) (by decide) (by rfl) (by rfl)) (fun _ _ => rfl)) (@pe_int _ _ _ _) (fun _ _ => rfl)) (by rfl) (by first | exact .inl rfl | exact .inr rfl))) (@pss_nil _)) (@pss_cons _ _ _ _ _ (@ps_if _ _ _ _ _ _ _ _ (@pt_cmpR _ _ _ _ _ _ _ _ op_eq (@pe_df _ _ _ _ _ _ _ _ _ _ _ f_l_pick hr (@pa_cons _ _ _ _ _ (@pv _ 0 _ _ (by rfl) (Or.inl rfl) (by decide) (by decide)) (@pa_cons _ _ _ _ _ (@pe_int _ _ _ _) (@pa_nil _) (by rfl)) (by rfl)) (by first | decide | exact Nat.le_refl _ | omega) (by rfl) (by decide) (by rfl) (by rfl)) (@pe_int _ _ _ _) (nomark _)) (@pss_one _ _ _ (@ps_set _ _ 6 _ _ _ _ sc_l_heads.nd rfl (Or.inl rfl) (@pe_non _ _ _) (by rfl) (by first | exact .inl rfl | exact .inr rfl))) (@pss_nil _)) (@pss_cons _ _ _ _ _ (@ps_expr _ _ _ _ (@pe_bm _ _ _ _ _ _ _ _ _ _ _ _ PySem.F.plainAttrs_list PySem.F.slot_list_append PySem.F.type_list_append mt_append (@pv _ 3 _ _ (by rfl) (Or.inl rfl) (by decide) (by decide)) (@pa_cons _ _ _ _ _ (@pe_tup _ _ _ _ _ (@pa_cons _ _ _ _ _ (@pv _ 4 _ _ (by rfl) (Or.inl rfl) (by decide) (by decide)) (@pa_cons _ _ _ _ _ (@pv _ 6 _ _ (by rfl) (Or.inl rfl) (by decide) (by decide)) (@pa_nil _) (by rfl)) (by rfl))) (@pa_nil _) (by rfl)) (by rfl) (by rfl) (by rfl) (by rfl) (by rfl)) (by rfl)) (@pss_one _ _ _ (@ps_set _ _ 4 _ _ _ _ sc_l_heads.nd rfl (Or.inl rfl) (@pe_op _ _ _ _ _ _ _ _ op_add (@pe_op _ _ _ _ _ _ _ _ op_add (@pv _ 4 _ _ (by rfl) (Or.inl rfl) (by decide) (by decide)) (@pe_int _ _ _ _)) (@pe_df _ _ _ _ _ _ _ _ _ _ _ f_l_pick hr (@pa_cons _ _ _ _ _ (@pv _ 0 _ _ (by rfl) (Or.inl rfl) (by decide) (by decide)) (@pa_cons _ _ _ _ _ (@pe_int _ _ _ _) (@pa_nil _) (by rfl)) (by rfl)) (by first | decide | exact Nat.le_refl _ | omega) (by rfl) (by decide) (by rfl) (by rfl))) (by rfl) (by first | exact .inl rfl | exact .inr rfl))))))) (by intro _; rfl)) (@pss_one _ _ _ (@ps_ret _ _ _ _ (@pv _ 3 _ _ (by rfl) (Or.inl rfl) (by decide) (by decide))))))))), ?_⟩
  have c0 := hL.ge
  refine ⟨_, rfl, p, c, rfl, hL, by omega, fun l ss c5 H5 hl0 hl5 n1 n4 h24 L5 a1 a2 B5 => ?_⟩
  have npl : p ≠ l := by
    obtain ⟨o, ho⟩ := hL.here
    exact ne_of_none ho hl0
  refine ⟨_, rfl, p, c5, _, rfl, L5, by omega, by decide, by decide, fun d1 H6 d10 d11 L6 B6 => ⟨_, _, rfl, rfl, (by show 12 ≤ sizeLine; decide), fun m hm => ?_⟩⟩
  have npm : p ≠ m := by obtain ⟨o, ho⟩ := L6.here; exact ne_of_none ho hm
  have hl6 := B6 l _ hl5 npl.symm
  refine ⟨_, rfl, p, c5 + 1, _, rfl, L6.new hm, by omega, by decide, by decide, fun ix H7 ix0 ix1 L7 B7 => ?_⟩
  have hm7 : H7 m = some (.lst (([0, 1, 2, 3, 4, 5, 6, 4, 5, 6, 3, 7 + d1] : List Int).map V.int)) := B7 m _ upd_same npm.symm
  obtain ⟨many, hmm, hatm⟩ := at_intM (ns := [0, 1, 2, 3, 4, 5, 6, 4, 5, 6, 3, 7 + d1]) ix0 ix1
  have hm1 : 0 ≤ many ∧ many ≤ 16 := by
    simp only [List.mem_cons, List.not_mem_nil, or_false] at hmm
    omega
  refine ⟨m, _, _, _, rfl, rfl, SqL.of hm7, hatm, (by show 0 ≤ sizeLine; decide), fun r hr0 => ?_⟩
  have B07 : But p H H7 := ((B5.trans B6).trans (But.same (same_new hm _))).trans B7
  have hl7 := B7 l _ (same_new hm _ _ _ hl6) npl.symm
  have npr : p ≠ r := by obtain ⟨o, ho⟩ := L7.here; exact ne_of_none ho hr0
  have nlr : l ≠ r := ne_of_none hl7 hr0
  have hrn : H r = none := free_of B07 npr hr0
  refine ⟨_, rfl, p, c5 + 1 + 1, _, rfl, L7.new hr0, by omega, by decide, by decide, fun n0 Ha n00 n01 La Ba => ?_⟩
  refine ⟨_, rfl, _, rfl, by omega, by omega, ?_⟩
  refine for_range (fun i σ H2 => ∃ (hs : HeadL) (nv : Int) (v5 v6 : Option V) (c2 : Int), σ = [some (.ref p), some (.ref l), some (.int many), some (.ref r), some (.int nv), v5, v6] ∧ H2 r = some (.lst (hrefs hs)) ∧ H2 l = some (.lst (ss.map V.str)) ∧ hs.length = i ∧ AtH H2 hs ∧ KeyOk hs ∧ Rise hs ∧ (∀ h ∈ hs, h.2.1 < nv) ∧ Left H2 p c2 ∧ c5 + 3 ≤ c2 ∧ c2 ≤ c5 + 3 + 11 * i ∧ (∀ b o, H b = some o → b ≠ p → H2 b = some o))
    ⟨[], n0, none, none, c5 + 1 + 1 + 1, rfl, Ba r _ upd_same npr.symm, Ba l _ (same_new hr0 _ _ _ hl7) npl.symm, rfl, (fun h hh => by cases hh), (fun h hh => by cases hh), .nil, (fun h hh => by cases hh), La, by omega, by omega, fun b o h n => Ba b o (same_new hr0 _ _ _ (B07 b o h n)) n⟩ ?_ ?_
  · rintro i σ H2 hi ⟨hs, nv, v5, v6, c2, rfl, hr2, hl2, hn, hA2, hK2, hR2, hlt2, L2, b1, b2, B2⟩
    have hi16 : (i : Int) < 16 := by omega
    have hlt : (hrefs hs).length < sizeLine := by unfold hrefs; rw [List.length_map, hn]; exact small1000 (by omega)
    refine ⟨_, rfl, _, rfl, p, l, c2, ss, rfl, L2, by omega, hl2, n1, n4, h24, fun key c3 H3 hkey hkaz L3 a3 a4 B3 => ?_⟩
    have hr3 := B3 r _ hr2 npr.symm
    have hl3 := B3 l _ hl2 npl.symm
    have hA3 : AtH H3 hs := fun x hx => by
      have h1 := hA2 x hx
      have np : x.1 ≠ p := by
        intro z
        obtain ⟨x1, x2, hp, _⟩ := L2
        rw [z, hp] at h1; cases h1
      exact B3 _ _ h1 np
    have fin : ∀ (ko : Option Str) (tn : Addr) (nv' c4 : Int) {H4 : Hp}, (∀ z, ko = some z → z.length ≤ 28 ∧ AZ z) → nv < nv' → Left H4 p c4 → c2 ≤ c4 → c4 ≤ c2 + 11 → H4 r = some (.lst (hrefs (hs ++ [(tn, nv, ko)]))) → H4 l = some (.lst (ss.map V.str)) → AtH H4 (hs ++ [(tn, nv, ko)]) → (∀ b o, H b = some o → b ≠ p → H4 b = some o) →
        ∃ (hs' : HeadL) (nv2 : Int) (v5 v6 : Option V) (c5' : Int), [some (V.ref p), some (V.ref l), some (V.int many), some (V.ref r), some (V.int nv'), some (V.int (0 + (i : Int))), some (optV ko)] = [some (.ref p), some (.ref l), some (.int many), some (.ref r), some (.int nv2), v5, v6] ∧ H4 r = some (.lst (hrefs hs')) ∧ H4 l = some (.lst (ss.map V.str)) ∧ hs'.length = i + 1 ∧ AtH H4 hs' ∧ KeyOk hs' ∧ Rise hs' ∧ (∀ h ∈ hs', h.2.1 < nv2) ∧ Left H4 p c5' ∧ c5 + 3 ≤ c5' ∧ c5' ≤ c5 + 3 + 11 * ((i + 1 : Nat) : Int) ∧ (∀ b o, H b = some o → b ≠ p → H4 b = some o) := fun ko tn nv' c4 {H4} hko hnv L4 d1 d2 hr4 hl4 hA4 B4 => by
      refine ⟨hs ++ [(tn, nv, ko)], nv', _, _, c4, rfl, hr4, hl4, by rw [List.length_append, hn]; rfl, hA4, fun x hx z hz => ?_, ?_, fun x hx => ?_, L4, by omega, by omega, B4⟩
      · rcases List.mem_append.mp hx with hx | hx
        · exact hK2 x hx z hz
        · rw [List.mem_singleton.mp hx] at hz; exact hko z hz
      · unfold Rise
        rw [List.pairwise_append]
        exact ⟨hR2, List.pairwise_singleton _ _, fun a ha b hb => by rw [List.mem_singleton.mp hb]; exact hlt2 a ha⟩
      · rcases List.mem_append.mp hx with hx | hx
        · have := hlt2 x hx; omega
        · rw [List.mem_singleton.mp hx]; exact hnv
    refine ⟨_, rfl, (by show 0 ≤ sizeLine; decide), fun e he => ?_⟩
    have se := same_new he (.lst [])
    refine ⟨.list (hs.map headD), .list [], .lst (SqL.of (se _ _ hr3)) (dv_heads hs (hA3.mono se)), .lst (SqL.of upd_same) .nil, shaped_heads hs hK2, (by decide +kernel), _, rfl, ?_⟩
    have hr4 := se _ _ hr3
    have hl4 := se _ _ hl3
    have hA4 := hA3.mono se
    have L4 : Left (upd H3 e (.lst [])) p c3 := L3.new he
    have B4 : ∀ b o, H b = some o → b ≠ p → (upd H3 e (.lst [])) b = some o := fun b o z n => se _ _ (B3 b o (B2 b o z n) n)
    generalize upd H3 e (.lst []) = H4 at hr4 hl4 hA4 L4 B4 ⊢
    have hkk : ∀ z, some key = some z → z.length ≤ 28 ∧ AZ z := fun z hz => by cases hz; exact ⟨hkey, hkaz⟩
    by_cases h0 : hs = []
    · have ev : (if true = true then !PyData.eqv (.list (hs.map headD)) (.list []) else PyData.eqv (.list (hs.map headD)) (.list [])) = false := by rw [h0]; decide +kernel
      rw [ev]
      refine iteF (iteF ?_)
      refine ⟨_, rfl, p, c3, _, rfl, L4, by omega, by decide, by decide, fun g H8 g0 g1 L8 B8 => ⟨rfl, _, rfl, ite2 (fun _ => ?_) (fun _ => ?_)⟩⟩
      · skip
        have hr8 := B8 r _ hr4 npr.symm
        have hl8 := B8 l _ hl4 npl.symm
        have hA8 : AtH H8 hs := fun x hx => by
          have h1 := hA4 x hx
          have np : x.1 ≠ p := by
            intro z
            obtain ⟨x1, x2, hp, _⟩ := L4
            rw [z, hp] at h1; cases h1
          exact B8 _ _ h1 np
        have B08 : ∀ b o, H b = some o → b ≠ p → H8 b = some o := fun b o h n => B8 b o (B4 b o h n) n
        refine ⟨_, rfl, .inl ⟨rfl, _, SqL.of hr8⟩, _, rfl, _, rfl, (by show 2 ≤ sizeLine; decide), fun tn htn => ⟨r, _, _, rfl, rfl, same_new htn _ _ _ hr8, hlt, ?_⟩⟩
        have nrt : r ≠ tn := ne_of_none hr8 htn
        have st := same_new htn (.tup [.int nv, optV (none : Option Str)])
        have hrt := st _ _ hr8
        have Lt : Left (upd (upd H8 tn (.tup [.int nv, optV (none : Option Str)])) r (.lst (hrefs hs ++ [.ref tn]))) p (c3 + 1) := (L8.same st).at npr
        have hat : AtH (upd (upd H8 tn (.tup [.int nv, optV (none : Option Str)])) r (.lst (hrefs hs ++ [.ref tn]))) (hs ++ [(tn, nv, (none : Option Str))]) := fun x hx => by
          rcases List.mem_append.mp hx with hx | hx
          · exact tup_keep hrt _ _ _ (st _ _ (hA8 x hx))
          · rw [List.mem_singleton.mp hx, upd_ne nrt.symm]; exact upd_same
        have hrr : (upd (upd H8 tn (.tup [.int nv, optV (none : Option Str)])) r (.lst (hrefs hs ++ [.ref tn]))) r = some (.lst (hrefs (hs ++ [(tn, nv, (none : Option Str))]))) := by rw [upd_same]; unfold hrefs; rw [List.map_append]; rfl
        have hll : (upd (upd H8 tn (.tup [.int nv, optV (none : Option Str)])) r (.lst (hrefs hs ++ [.ref tn]))) l = some (.lst (ss.map V.str)) := by rw [upd_ne nlr]; exact st _ _ hl8
        have hBB : ∀ b o, H b = some o → b ≠ p → (upd (upd H8 tn (.tup [.int nv, optV (none : Option Str)])) r (.lst (hrefs hs ++ [.ref tn]))) b = some o := fun b o h n => by rw [upd_ne (ne_of_none h hrn)]; exact st _ _ (B08 b o h n)
        refine ⟨_, rfl, _, _, rfl, rfl, _, rfl, p, c3 + 1, _, rfl, Lt, by omega, by decide, by decide, fun ee H9 e0 e1 L9 B9 => ⟨_, _, rfl, rfl, ?_⟩⟩
        exact fin (none : Option Str) tn _ _ (fun z h => by cases h) (by omega) L9 (by omega) (by omega) (B9 r _ hrr npr.symm) (B9 l _ hll npl.symm) (fun x hx => by
          have h1 := hat x hx
          have np : x.1 ≠ p := by
            intro z
            obtain ⟨x1, x2, hp, _⟩ := Lt
            rw [z, hp] at h1; cases h1
          exact B9 _ _ h1 np) (fun b o h n => B9 b o (hBB b o h n) n)
      · skip
        have hr8 := B8 r _ hr4 npr.symm
        have hl8 := B8 l _ hl4 npl.symm
        have hA8 : AtH H8 hs := fun x hx => by
          have h1 := hA4 x hx
          have np : x.1 ≠ p := by
            intro z
            obtain ⟨x1, x2, hp, _⟩ := L4
            rw [z, hp] at h1; cases h1
          exact B8 _ _ h1 np
        have B08 : ∀ b o, H b = some o → b ≠ p → H8 b = some o := fun b o h n => B8 b o (B4 b o h n) n
        refine ⟨_, rfl, .inl ⟨rfl, _, SqL.of hr8⟩, _, rfl, _, rfl, (by show 2 ≤ sizeLine; decide), fun tn htn => ⟨r, _, _, rfl, rfl, same_new htn _ _ _ hr8, hlt, ?_⟩⟩
        have nrt : r ≠ tn := ne_of_none hr8 htn
        have st := same_new htn (.tup [.int nv, optV (some key)])
        have hrt := st _ _ hr8
        have Lt : Left (upd (upd H8 tn (.tup [.int nv, optV (some key)])) r (.lst (hrefs hs ++ [.ref tn]))) p (c3 + 1) := (L8.same st).at npr
        have hat : AtH (upd (upd H8 tn (.tup [.int nv, optV (some key)])) r (.lst (hrefs hs ++ [.ref tn]))) (hs ++ [(tn, nv, (some key))]) := fun x hx => by
          rcases List.mem_append.mp hx with hx | hx
          · exact tup_keep hrt _ _ _ (st _ _ (hA8 x hx))
          · rw [List.mem_singleton.mp hx, upd_ne nrt.symm]; exact upd_same
        have hrr : (upd (upd H8 tn (.tup [.int nv, optV (some key)])) r (.lst (hrefs hs ++ [.ref tn]))) r = some (.lst (hrefs (hs ++ [(tn, nv, (some key))]))) := by rw [upd_same]; unfold hrefs; rw [List.map_append]; rfl
        have hll : (upd (upd H8 tn (.tup [.int nv, optV (some key)])) r (.lst (hrefs hs ++ [.ref tn]))) l = some (.lst (ss.map V.str)) := by rw [upd_ne nlr]; exact st _ _ hl8
        have hBB : ∀ b o, H b = some o → b ≠ p → (upd (upd H8 tn (.tup [.int nv, optV (some key)])) r (.lst (hrefs hs ++ [.ref tn]))) b = some o := fun b o h n => by rw [upd_ne (ne_of_none h hrn)]; exact st _ _ (B08 b o h n)
        refine ⟨_, rfl, _, _, rfl, rfl, _, rfl, p, c3 + 1, _, rfl, Lt, by omega, by decide, by decide, fun ee H9 e0 e1 L9 B9 => ⟨_, _, rfl, rfl, ?_⟩⟩
        exact fin (some key) tn _ _ hkk (by omega) L9 (by omega) (by omega) (B9 r _ hrr npr.symm) (B9 l _ hll npl.symm) (fun x hx => by
          have h1 := hat x hx
          have np : x.1 ≠ p := by
            intro z
            obtain ⟨x1, x2, hp, _⟩ := Lt
            rw [z, hp] at h1; cases h1
          exact B9 _ _ h1 np) (fun b o h n => B9 b o (hBB b o h n) n)
    · have ev : (if true = true then !PyData.eqv (.list (hs.map headD)) (.list []) else PyData.eqv (.list (hs.map headD)) (.list [])) = true := by
        cases hs with
        | nil => exact absurd rfl h0
        | cons _ _ => simp [PyData.eqv, PyData.eqvAll]
      rw [ev]
      refine iteT ⟨_, rfl, p, c3, _, rfl, L4, by omega, by decide, by decide, fun g H6 g0 g1 L6' B6' => ?_⟩
      have hr6 := B6' r _ hr4 npr.symm
      have hl6' := B6' l _ hl4 npl.symm
      have hA6 : AtH H6 hs := fun x hx => by
        have h1 := hA4 x hx
        have np : x.1 ≠ p := by
          intro z
          obtain ⟨x1, x2, hp, _⟩ := L4
          rw [z, hp] at h1; cases h1
        exact B6' _ _ h1 np
      have B06 : ∀ b o, H b = some o → b ≠ p → H6 b = some o := fun b o h n => B6' b o (B4 b o h n) n
      refine ⟨rfl, _, rfl, ite2 (fun _ => ?_) (fun _ => ?_)⟩
      · have hpos : 0 < hs.length := by
          cases hs with
          | nil => exact absurd rfl h0
          | cons _ _ => simp
        have hrl : (((hrefs hs).length : Nat) : Int) = (hs.length : Int) := by unfold hrefs; rw [List.length_map]
        refine ⟨_, rfl, _, rfl, _, rfl, r, _, rfl, .inl (SqL.of hr6), p, c3 + 1, _, rfl, L6', by omega, by omega, by omega, fun g' H7' g0' g1' L7' B7' => ?_⟩
        obtain ⟨k', hk'⟩ : ∃ k' : Nat, g' = (k' : Int) := ⟨g'.toNat, by omega⟩
        subst hk'
        have hkl : k' < hs.length := by omega
        have hr7 := B7' r _ hr6 npr.symm
        have hl7' := B7' l _ hl6' npl.symm
        have hA7 : AtH H7' hs := fun x hx => by
          have h1 := hA6 x hx
          have np : x.1 ≠ p := by
            intro z
            obtain ⟨x1, x2, hp, _⟩ := L6'
            rw [z, hp] at h1; cases h1
          exact B7' _ _ h1 np
        have B07' : ∀ b o, H b = some o → b ≠ p → H7' b = some o := fun b o h n => B7' b o (B06 b o h n) n
        have hatk : atI (hrefs hs) ((k' : Nat) : Int) = some (.ref hs[k'].1) := atI_nat (by unfold hrefs; rw [List.getElem?_map, List.getElem?_eq_getElem hkl] <;> rfl)
        have hmem : hs[k'] ∈ hs := List.getElem_mem hkl
        refine ⟨r, _, _, _, rfl, rfl, SqL.of hr7, hatk, hs[k'].1, _, _, _, rfl, rfl, SqT.of (hA7 _ hmem), rfl, ?_⟩
        refine ⟨_, rfl, p, c3 + 1 + 1, _, rfl, L7', by omega, by decide, by decide, fun g H8 g0 g1 L8 B8 => ⟨rfl, _, rfl, ite2 (fun _ => ?_) (fun _ => ?_)⟩⟩
        · skip
          have hr8 := B8 r _ hr7 npr.symm
          have hl8 := B8 l _ hl7' npl.symm
          have hA8 : AtH H8 hs := fun x hx => by
            have h1 := hA7 x hx
            have np : x.1 ≠ p := by
              intro z
              obtain ⟨x1, x2, hp, _⟩ := L7'
              rw [z, hp] at h1; cases h1
            exact B8 _ _ h1 np
          have B08 : ∀ b o, H b = some o → b ≠ p → H8 b = some o := fun b o h n => B8 b o (B07' b o h n) n
          refine ⟨_, rfl, .inl ⟨rfl, _, SqL.of hr8⟩, _, rfl, _, rfl, (by show 2 ≤ sizeLine; decide), fun tn htn => ⟨r, _, _, rfl, rfl, same_new htn _ _ _ hr8, hlt, ?_⟩⟩
          have nrt : r ≠ tn := ne_of_none hr8 htn
          have st := same_new htn (.tup [.int nv, optV (none : Option Str)])
          have hrt := st _ _ hr8
          have Lt : Left (upd (upd H8 tn (.tup [.int nv, optV (none : Option Str)])) r (.lst (hrefs hs ++ [.ref tn]))) p (c3 + 1 + 1 + 1) := (L8.same st).at npr
          have hat : AtH (upd (upd H8 tn (.tup [.int nv, optV (none : Option Str)])) r (.lst (hrefs hs ++ [.ref tn]))) (hs ++ [(tn, nv, (none : Option Str))]) := fun x hx => by
            rcases List.mem_append.mp hx with hx | hx
            · exact tup_keep hrt _ _ _ (st _ _ (hA8 x hx))
            · rw [List.mem_singleton.mp hx, upd_ne nrt.symm]; exact upd_same
          have hrr : (upd (upd H8 tn (.tup [.int nv, optV (none : Option Str)])) r (.lst (hrefs hs ++ [.ref tn]))) r = some (.lst (hrefs (hs ++ [(tn, nv, (none : Option Str))]))) := by rw [upd_same]; unfold hrefs; rw [List.map_append]; rfl
          have hll : (upd (upd H8 tn (.tup [.int nv, optV (none : Option Str)])) r (.lst (hrefs hs ++ [.ref tn]))) l = some (.lst (ss.map V.str)) := by rw [upd_ne nlr]; exact st _ _ hl8
          have hBB : ∀ b o, H b = some o → b ≠ p → (upd (upd H8 tn (.tup [.int nv, optV (none : Option Str)])) r (.lst (hrefs hs ++ [.ref tn]))) b = some o := fun b o h n => by rw [upd_ne (ne_of_none h hrn)]; exact st _ _ (B08 b o h n)
          refine ⟨_, rfl, _, _, rfl, rfl, _, rfl, p, c3 + 1 + 1 + 1, _, rfl, Lt, by omega, by decide, by decide, fun ee H9 e0 e1 L9 B9 => ⟨_, _, rfl, rfl, ?_⟩⟩
          exact fin (none : Option Str) tn _ _ (fun z h => by cases h) (by omega) L9 (by omega) (by omega) (B9 r _ hrr npr.symm) (B9 l _ hll npl.symm) (fun x hx => by
            have h1 := hat x hx
            have np : x.1 ≠ p := by
              intro z
              obtain ⟨x1, x2, hp, _⟩ := Lt
              rw [z, hp] at h1; cases h1
            exact B9 _ _ h1 np) (fun b o h n => B9 b o (hBB b o h n) n)
        · skip
          have hr8 := B8 r _ hr7 npr.symm
          have hl8 := B8 l _ hl7' npl.symm
          have hA8 : AtH H8 hs := fun x hx => by
            have h1 := hA7 x hx
            have np : x.1 ≠ p := by
              intro z
              obtain ⟨x1, x2, hp, _⟩ := L7'
              rw [z, hp] at h1; cases h1
            exact B8 _ _ h1 np
          have B08 : ∀ b o, H b = some o → b ≠ p → H8 b = some o := fun b o h n => B8 b o (B07' b o h n) n
          refine ⟨_, rfl, .inl ⟨rfl, _, SqL.of hr8⟩, _, rfl, _, rfl, (by show 2 ≤ sizeLine; decide), fun tn htn => ⟨r, _, _, rfl, rfl, same_new htn _ _ _ hr8, hlt, ?_⟩⟩
          have nrt : r ≠ tn := ne_of_none hr8 htn
          have st := same_new htn (.tup [.int nv, optV hs[k'].2.2])
          have hrt := st _ _ hr8
          have Lt : Left (upd (upd H8 tn (.tup [.int nv, optV hs[k'].2.2])) r (.lst (hrefs hs ++ [.ref tn]))) p (c3 + 1 + 1 + 1) := (L8.same st).at npr
          have hat : AtH (upd (upd H8 tn (.tup [.int nv, optV hs[k'].2.2])) r (.lst (hrefs hs ++ [.ref tn]))) (hs ++ [(tn, nv, hs[k'].2.2)]) := fun x hx => by
            rcases List.mem_append.mp hx with hx | hx
            · exact tup_keep hrt _ _ _ (st _ _ (hA8 x hx))
            · rw [List.mem_singleton.mp hx, upd_ne nrt.symm]; exact upd_same
          have hrr : (upd (upd H8 tn (.tup [.int nv, optV hs[k'].2.2])) r (.lst (hrefs hs ++ [.ref tn]))) r = some (.lst (hrefs (hs ++ [(tn, nv, hs[k'].2.2)]))) := by rw [upd_same]; unfold hrefs; rw [List.map_append]; rfl
          have hll : (upd (upd H8 tn (.tup [.int nv, optV hs[k'].2.2])) r (.lst (hrefs hs ++ [.ref tn]))) l = some (.lst (ss.map V.str)) := by rw [upd_ne nlr]; exact st _ _ hl8
          have hBB : ∀ b o, H b = some o → b ≠ p → (upd (upd H8 tn (.tup [.int nv, optV hs[k'].2.2])) r (.lst (hrefs hs ++ [.ref tn]))) b = some o := fun b o h n => by rw [upd_ne (ne_of_none h hrn)]; exact st _ _ (B08 b o h n)
          refine ⟨_, rfl, _, _, rfl, rfl, _, rfl, p, c3 + 1 + 1 + 1, _, rfl, Lt, by omega, by decide, by decide, fun ee H9 e0 e1 L9 B9 => ⟨_, _, rfl, rfl, ?_⟩⟩
          exact fin hs[k'].2.2 tn _ _ (fun z hz => hK2 _ hmem z hz) (by omega) L9 (by omega) (by omega) (B9 r _ hrr npr.symm) (B9 l _ hll npl.symm) (fun x hx => by
            have h1 := hat x hx
            have np : x.1 ≠ p := by
              intro z
              obtain ⟨x1, x2, hp, _⟩ := Lt
              rw [z, hp] at h1; cases h1
            exact B9 _ _ h1 np) (fun b o h n => B9 b o (hBB b o h n) n)
      · skip
        refine ⟨_, rfl, p, c3 + 1, _, rfl, L6', by omega, by decide, by decide, fun g H8 g0 g1 L8 B8 => ⟨rfl, _, rfl, ite2 (fun _ => ?_) (fun _ => ?_)⟩⟩
        · skip
          have hr8 := B8 r _ hr6 npr.symm
          have hl8 := B8 l _ hl6' npl.symm
          have hA8 : AtH H8 hs := fun x hx => by
            have h1 := hA6 x hx
            have np : x.1 ≠ p := by
              intro z
              obtain ⟨x1, x2, hp, _⟩ := L6'
              rw [z, hp] at h1; cases h1
            exact B8 _ _ h1 np
          have B08 : ∀ b o, H b = some o → b ≠ p → H8 b = some o := fun b o h n => B8 b o (B06 b o h n) n
          refine ⟨_, rfl, .inl ⟨rfl, _, SqL.of hr8⟩, _, rfl, _, rfl, (by show 2 ≤ sizeLine; decide), fun tn htn => ⟨r, _, _, rfl, rfl, same_new htn _ _ _ hr8, hlt, ?_⟩⟩
          have nrt : r ≠ tn := ne_of_none hr8 htn
          have st := same_new htn (.tup [.int nv, optV (none : Option Str)])
          have hrt := st _ _ hr8
          have Lt : Left (upd (upd H8 tn (.tup [.int nv, optV (none : Option Str)])) r (.lst (hrefs hs ++ [.ref tn]))) p (c3 + 1 + 1) := (L8.same st).at npr
          have hat : AtH (upd (upd H8 tn (.tup [.int nv, optV (none : Option Str)])) r (.lst (hrefs hs ++ [.ref tn]))) (hs ++ [(tn, nv, (none : Option Str))]) := fun x hx => by
            rcases List.mem_append.mp hx with hx | hx
            · exact tup_keep hrt _ _ _ (st _ _ (hA8 x hx))
            · rw [List.mem_singleton.mp hx, upd_ne nrt.symm]; exact upd_same
          have hrr : (upd (upd H8 tn (.tup [.int nv, optV (none : Option Str)])) r (.lst (hrefs hs ++ [.ref tn]))) r = some (.lst (hrefs (hs ++ [(tn, nv, (none : Option Str))]))) := by rw [upd_same]; unfold hrefs; rw [List.map_append]; rfl
          have hll : (upd (upd H8 tn (.tup [.int nv, optV (none : Option Str)])) r (.lst (hrefs hs ++ [.ref tn]))) l = some (.lst (ss.map V.str)) := by rw [upd_ne nlr]; exact st _ _ hl8
          have hBB : ∀ b o, H b = some o → b ≠ p → (upd (upd H8 tn (.tup [.int nv, optV (none : Option Str)])) r (.lst (hrefs hs ++ [.ref tn]))) b = some o := fun b o h n => by rw [upd_ne (ne_of_none h hrn)]; exact st _ _ (B08 b o h n)
          refine ⟨_, rfl, _, _, rfl, rfl, _, rfl, p, c3 + 1 + 1, _, rfl, Lt, by omega, by decide, by decide, fun ee H9 e0 e1 L9 B9 => ⟨_, _, rfl, rfl, ?_⟩⟩
          exact fin (none : Option Str) tn _ _ (fun z h => by cases h) (by omega) L9 (by omega) (by omega) (B9 r _ hrr npr.symm) (B9 l _ hll npl.symm) (fun x hx => by
            have h1 := hat x hx
            have np : x.1 ≠ p := by
              intro z
              obtain ⟨x1, x2, hp, _⟩ := Lt
              rw [z, hp] at h1; cases h1
            exact B9 _ _ h1 np) (fun b o h n => B9 b o (hBB b o h n) n)
        · skip
          have hr8 := B8 r _ hr6 npr.symm
          have hl8 := B8 l _ hl6' npl.symm
          have hA8 : AtH H8 hs := fun x hx => by
            have h1 := hA6 x hx
            have np : x.1 ≠ p := by
              intro z
              obtain ⟨x1, x2, hp, _⟩ := L6'
              rw [z, hp] at h1; cases h1
            exact B8 _ _ h1 np
          have B08 : ∀ b o, H b = some o → b ≠ p → H8 b = some o := fun b o h n => B8 b o (B06 b o h n) n
          refine ⟨_, rfl, .inl ⟨rfl, _, SqL.of hr8⟩, _, rfl, _, rfl, (by show 2 ≤ sizeLine; decide), fun tn htn => ⟨r, _, _, rfl, rfl, same_new htn _ _ _ hr8, hlt, ?_⟩⟩
          have nrt : r ≠ tn := ne_of_none hr8 htn
          have st := same_new htn (.tup [.int nv, optV (some key)])
          have hrt := st _ _ hr8
          have Lt : Left (upd (upd H8 tn (.tup [.int nv, optV (some key)])) r (.lst (hrefs hs ++ [.ref tn]))) p (c3 + 1 + 1) := (L8.same st).at npr
          have hat : AtH (upd (upd H8 tn (.tup [.int nv, optV (some key)])) r (.lst (hrefs hs ++ [.ref tn]))) (hs ++ [(tn, nv, (some key))]) := fun x hx => by
            rcases List.mem_append.mp hx with hx | hx
            · exact tup_keep hrt _ _ _ (st _ _ (hA8 x hx))
            · rw [List.mem_singleton.mp hx, upd_ne nrt.symm]; exact upd_same
          have hrr : (upd (upd H8 tn (.tup [.int nv, optV (some key)])) r (.lst (hrefs hs ++ [.ref tn]))) r = some (.lst (hrefs (hs ++ [(tn, nv, (some key))]))) := by rw [upd_same]; unfold hrefs; rw [List.map_append]; rfl
          have hll : (upd (upd H8 tn (.tup [.int nv, optV (some key)])) r (.lst (hrefs hs ++ [.ref tn]))) l = some (.lst (ss.map V.str)) := by rw [upd_ne nlr]; exact st _ _ hl8
          have hBB : ∀ b o, H b = some o → b ≠ p → (upd (upd H8 tn (.tup [.int nv, optV (some key)])) r (.lst (hrefs hs ++ [.ref tn]))) b = some o := fun b o h n => by rw [upd_ne (ne_of_none h hrn)]; exact st _ _ (B08 b o h n)
          refine ⟨_, rfl, _, _, rfl, rfl, _, rfl, p, c3 + 1 + 1, _, rfl, Lt, by omega, by decide, by decide, fun ee H9 e0 e1 L9 B9 => ⟨_, _, rfl, rfl, ?_⟩⟩
          exact fin (some key) tn _ _ hkk (by omega) L9 (by omega) (by omega) (B9 r _ hrr npr.symm) (B9 l _ hll npl.symm) (fun x hx => by
            have h1 := hat x hx
            have np : x.1 ≠ p := by
              intro z
              obtain ⟨x1, x2, hp, _⟩ := Lt
              rw [z, hp] at h1; cases h1
            exact B9 _ _ h1 np) (fun b o h n => B9 b o (hBB b o h n) n)
  · rintro σ H2 ⟨hs, nv, v5, v6, c2, rfl, hr2, hl2, hn, hA2, hK2, hR2, hlt2, L2, b1, b2, B2⟩
    exact ⟨_, rfl, q r hs c2 H2 hrn hr2 hA2 (by omega) hK2 hR2 L2 (by omega) (by omega) B2⟩
theorem keyed_ok {hs : HeadL} (hk : KeyOk hs) : ∀ e ∈ keyed hs, e.1.length ≤ 28 ∧ AZ e.1 := fun e he => by
  obtain ⟨h, hh, he2⟩ := List.mem_filterMap.mp he
  cases hz : h.2.2 with
  | none => rw [hz] at he2; cases he2
  | some z => rw [hz] at he2; cases he2; exact hk h hh z hz
def Ord (E : List (Str × Int)) : Prop := E.Pairwise fun a b => lexB (kk b) (kk a) = false
theorem keyed_rows : ∀ hs : HeadL, Rise hs → ((keyed hs).map (·.2)).Nodup
  | [], _ => List.nodup_nil
  | h :: r, hr => by
    unfold Rise at hr
    rw [List.pairwise_cons] at hr
    have ih := keyed_rows r hr.2
    unfold keyed at ih ⊢
    rw [List.filterMap_cons]
    cases hz : h.2.2 with
    | none => simp only [Option.map_none]; exact ih
    | some z =>
      simp only [Option.map_some]
      rw [List.map_cons, List.nodup_cons]
      refine ⟨fun hm => ?_, ih⟩
      obtain ⟨e, he, e2⟩ := List.mem_map.mp hm
      obtain ⟨h', hh', e3⟩ := List.mem_filterMap.mp he
      have := hr.1 h' hh'
      cases hz' : h'.2.2 with
      | none => rw [hz'] at e3; cases e3
      | some z' =>
        rw [hz'] at e3
        cases e3
        have e2' : h'.2.1 = h.2.1 := e2
        omega
def pairD (e : Str × Int) : PyData := .tuple [.str e.1, .int e.2]
theorem dv_made {K : PySem.W.Frag} {H : Hp} : ∀ (ts : TupL) (E : List (Str × Int)), AtT H ts → ts.map (·.2) = E.map kk → DVs K H (refs ts) (E.map pairD)
  | [], [], _, _ => .nil
  | [], _ :: _, _, h => by cases h
  | _ :: _, [], _, h => by cases h
  | t :: r, e :: E, ha, h => by
    rw [List.map_cons, List.map_cons] at h
    injection h with h1 h2
    have := ha t (by simp)
    rw [h1] at this
    exact .cons (.tup (SqT.of this) (.cons (.str _) (.cons (.int _) .nil))) (dv_made r E (fun x hx => ha x (List.mem_cons_of_mem _ hx)) h2)
theorem lay_pairs : ∀ E : List (Str × Int), (∀ e ∈ E, e.1.length ≤ 28 ∧ AZ e.1) → PyData.canLayAll0 (E.map pairD) = true ∧ PyData.depthAll (E.map pairD) ≤ 1
  | [], _ => ⟨rfl, Nat.zero_le _⟩
  | e :: r, h => by
    obtain ⟨a, b⟩ := lay_pairs r fun x hx => h x (List.mem_cons_of_mem _ hx)
    have hd : (pairD e).canLay0 = true ∧ (pairD e).depth = 1 := by
      unfold pairD
      exact ⟨by simp [PyData.canLay0, PyData.canLayAll0, (h e (by simp)).2.ok], by simp [PyData.depth, PyData.depthAll]⟩
    refine ⟨by simp [PyData.canLayAll0, hd.1, a], ?_⟩
    show max (pairD e).depth (PyData.depthAll (r.map pairD)) ≤ 1
    omega
theorem shaped_pairs (E : List (Str × Int)) (h : ∀ e ∈ E, e.1.length ≤ 28 ∧ AZ e.1) : SeqAt.shaped (.list (E.map pairD)) = true := by
  obtain ⟨a, b⟩ := lay_pairs E h
  simp [SeqAt.shaped, PyData.canLay0, PyData.depth, a]
  omega
def spLeast (K : PySem.W.Frag) : Sp := fun vs H Q _ => ∃ (a : Addr) (hs : HeadL), vs = [.ref a] ∧ SqL K H a (hrefs hs) ∧ AtH H hs ∧ hs.length ≤ 100 ∧ KeyOk hs ∧ ∀ (v : V) (H' : Hp), IsNext (keyed hs) v → Same H H' → Q v H'
theorem ok_least (T : Tops K mg) : Df P w K mg base 1 "_law_least" ["_law_heads_here"] (spLeast K) := by
  refine T.t_l_least.df sc_l_least (fun vs H Q E h => ?_) (fun cdv f A outer s H vs Q E hr h => ?_)
  · obtain ⟨a, hs, rfl, _⟩ := h
    rfl
  obtain ⟨a, hs, rfl, hS, hA, hn, hK, q⟩ := h
  refine ⟨_, (@pss_cons _ _ _ _ _ (@ps_setComp _ _ _ _ _ 1 _ _ _ _ _ _ _ _ _ _ _ _ sc_l_least.nd rfl (Or.inl rfl) cs_3 rfl rfl rfl (@iL _ K _ _ _ (@pv _ 0 _ _ (by rfl) (Or.inl rfl) (by decide) (by decide)) (by rfl)) (fun _ _ _ _ => (@gT _ K _ _ _ 2 _ (@pgs_cons _ _ _ _ _ (@cg _ _ _ _ _ _ _ _ _ _ _ 2 cs_3 rfl (by decide +kernel) (by rfl)) (@pgs_cons _ _ _ _ _ (@cg _ _ _ _ _ _ _ _ _ _ _ 3 cs_3 rfl (by decide +kernel) (by rfl)) (@pgs_nil _) (by rfl)) (by rfl)) (by rfl) (by rfl) (by rfl) (by rfl))) (fun _ _ _ _ => (@pts_one _ _ _ (@pt_cmpR _ _ _ _ _ _ _ _ op_notN (@cw _ _ _ _ _ _ _ _ _ _ _ 3 cs_3 rfl (by decide +kernel) (by rfl) (by decide) (by decide)) (@pe_non _ _ _) (nomark _)))) (fun _ _ _ _ => (@pe_tup _ _ _ _ _ (@pa_cons _ _ _ _ _ (@cw _ _ _ _ _ _ _ _ _ _ _ 3 cs_3 rfl (by decide +kernel) (by rfl) (by decide) (by decide)) (@pa_cons _ _ _ _ _ (@cw _ _ _ _ _ _ _ _ _ _ _ 2 cs_3 rfl (by decide +kernel) (by rfl) (by decide) (by decide)) (@pa_nil _) (by rfl)) (by rfl)))) (by rfl) (by intro _; rfl) (by first | exact .inl rfl | exact .inr rfl)) (@pss_one _ _ _ (@ps_ret _ _ _ _ (@pe_ifExp _ _ _ _ _ _ _ _ (@pt_cmpR _ _ _ _ _ _ _ _ (@neD _ K _ hr (by rfl)) (@pv _ 1 _ _ (by rfl) (Or.inl rfl) (by decide) (by decide)) (@pe_lst _ _ _ _ (@pa_nil _)) (nomark _)) (@pe_ix _ _ _ _ _ _ _ (ixT K) (@pe_callB _ _ _ _ _ _ _ _ _ (minT K hr) (by rfl) T.b.n_min boot_min (@pa_cons _ _ _ _ _ (@pv _ 1 _ _ (by rfl) (Or.inl rfl) (by decide) (by decide)) (@pa_nil _) (by rfl)) (by decide) (by decide) (by rfl) (by rfl)) (@pe_int _ _ _ _) (fun _ _ => rfl)) (@pe_non _ _ _))))), ?_⟩
  refine ⟨_, rfl, a, rfl, ⟨_, hS⟩, fun D hD => ?_⟩
  refine comp_listF (K := K) (a := a) (xs := hrefs hs) (fun i zs σ H2 => (∃ v2 v3 : Option V, σ = [some (.ref a), none, v2, v3]) ∧ Made (keyed (hs.take i)) zs H H2 ∧ zs.length ≤ i ∧ i ≤ hs.length ∧ H2 D = some (.lst zs) ∧ Same H H2) ?_ (fun _ _ _ _ h => h.2.2.2.2.2.seq hS) ?_ ?_
  · exact ⟨⟨none, none, rfl⟩, ⟨[], rfl, fun t h => (by cases h), rfl, fun t h => (by cases h)⟩, Nat.le_refl _, Nat.zero_le _, upd_same, same_new hD _⟩
  · rintro i x zs σ H2 hx ⟨⟨v2, v3, rfl⟩, m, hzl, hi, hD2, s2⟩
    obtain ⟨h, hh, rfl⟩ := href_at hx
    have hil : i < hs.length := (List.getElem?_eq_some_iff.mp hh).1
    have hH := hA.mono s2 h (List.mem_of_getElem? hh)
    refine ⟨h.1, _, rfl, SqT.of hH, rfl, _, _, rfl, _, _, rfl, rfl, ?_⟩
    have kt := keyed_take hs i hh
    cases hz : h.2.2 with
    | none =>
      rw [hz] at kt
      refine ⟨_, rfl, rfl, _, rfl, iteNS rfl ⟨⟨_, _, rfl⟩, ?_, by omega, hil, hD2, s2⟩⟩
      rw [kt, List.append_nil]; exact m
    | some z =>
      rw [hz] at kt
      refine ⟨_, rfl, rfl, _, rfl, iteNN (by intro e; cases e) ?_⟩
      refine ⟨_, rfl, _, rfl, (by show 2 ≤ sizeLine; decide), fun n hn0 => ?_⟩
      have sn := same_new hn0 (.tup [.str z, .int h.2.1])
      have hD3 := sn _ _ hD2
      have nDn : D ≠ n := ne_of_none hD2 hn0
      refine ⟨hD3, small1000 (by omega), ⟨_, _, rfl⟩, ?_, by rw [List.length_append, List.length_singleton]; omega, hil, upd_same, fun b o hb => ?_⟩
      · rw [kt]
        refine made_add m (fun b xs hb => ?_) ?_ (s2.free hn0)
        · exact tup_keep hD3 _ b xs (sn _ _ hb)
        · rw [upd_ne nDn.symm]; exact upd_same
      · rw [upd_ne (ne_of_none hb hD)]; exact sn _ _ (s2 b o hb)
  · rintro zs σ H2 ⟨⟨v2, v3, rfl⟩, ⟨ts, rfl, hat, hE, hfr⟩, hzl, hi, hD2, s2⟩
    rw [show (hrefs hs).length = hs.length from List.length_map _, List.take_of_length_le (Nat.le_refl _)] at hE
    refine ⟨_, rfl, (by show 0 ≤ sizeLine; decide), fun e he => ?_⟩
    have se := same_new he (.lst [])
    refine ⟨.list ((keyed hs).map pairD), .list [], .lst (SqL.of (se _ _ hD2)) (dv_made ts _ (AtT.mono hat se) hE), .lst (SqL.of upd_same) .nil, shaped_pairs _ (keyed_ok hK), (by decide +kernel), _, rfl, ?_⟩
    have hD3 := se _ _ hD2
    have hat3 := AtT.mono hat se
    have s3 := s2.trans se
    generalize upd H2 e (.lst []) = H3 at hD3 hat3 s3 ⊢
    by_cases h0 : keyed hs = []
    · have ev : (if true = true then !PyData.eqv (.list ((keyed hs).map pairD)) (.list []) else PyData.eqv (.list ((keyed hs).map pairD)) (.list [])) = false := by rw [h0]; decide +kernel
      rw [ev]
      exact iteF (q _ _ (.inl ⟨h0, rfl⟩) s3)
    · have ev : (if true = true then !PyData.eqv (.list ((keyed hs).map pairD)) (.list []) else PyData.eqv (.list ((keyed hs).map pairD)) (.list [])) = true := by
        cases hk : keyed hs with
        | nil => exact absurd hk h0
        | cons _ _ => simp [PyData.eqv, PyData.eqvAll]
      rw [ev]
      have hne : ts ≠ [] := fun z => by
        rw [z] at hE
        cases hk : keyed hs with
        | nil => exact h0 hk
        | cons _ _ => rw [hk] at hE; cases hE
      refine iteT ⟨_, rfl, D, ts, [false, true], rfl, SqL.of hD3, hat3, hne, Made.shape hE, fun t ht hm => ?_⟩
      obtain ⟨e', he', h2, hmin⟩ := made_min hE ht hm
      have ht2 := hat3 t ht
      rw [h2] at ht2
      exact ⟨t.1, _, _, _, rfl, rfl, SqT.of ht2, rfl, q _ _ (.inr ⟨e', he', hmin, rfl⟩) s3⟩
theorem perm_pairs {ts' ts : TupL} {E : List (Str × Int)} (hE : ts.map (·.2) = E.map kk) (pm : ts'.Perm ts) (pw : ts'.Pairwise (fun a b => lexB b.2 a.2 = false)) : ∃ E', E'.Perm E ∧ ts'.map (·.2) = E'.map kk ∧ Ord E' := by
  obtain ⟨E', p, e⟩ := perm_map kk (pm.map (·.2)) E hE
  refine ⟨E', p, e, ?_⟩
  have : (ts'.map (·.2)).Pairwise (fun a b => lexB b a = false) := List.pairwise_map.mpr pw
  rw [e] at this
  exact List.pairwise_map.mp this
theorem cutV_tail (xs : List V) : cutV xs (some 1) none = xs.tail := by
  unfold cutV HT.sIx
  simp only []
  rw [if_neg (by omega)]
  cases xs with
  | nil => rfl
  | cons x r =>
    have e : min ((1 : Int).toNat) (x :: r).length = 1 := by rw [List.length_cons]; show min 1 (r.length + 1) = 1; omega
    rw [show (min (1 : Int).toNat (x :: r).length) = 1 from e]
    simp
def ordC : List Nat → List Nat → Int
  | [], [] => 0
  | [], _ :: _ => -1
  | _ :: _, [] => 1
  | a :: r, b :: s => if a = b then ordC r s else if a < b then -1 else 1
theorem ordC_at : ∀ (x y : List Nat), (lcp x y = x.length → lcp x y = y.length → ordC x y = 0) ∧ (lcp x y = x.length → lcp x y ≠ y.length → ordC x y = -1) ∧ (lcp x y ≠ x.length → lcp x y = y.length → ordC x y = 1) ∧
    ∀ a b, x[lcp x y]? = some a → y[lcp x y]? = some b → ordC x y = if a < b then -1 else 1
  | [], [] => ⟨fun _ _ => rfl, fun _ h => absurd rfl h, fun h _ => absurd rfl h, fun a b h _ => by simp at h⟩
  | [], _ :: _ => ⟨fun _ h => by unfold lcp at h; simp at h, fun _ _ => rfl, fun h _ => absurd rfl h, fun a b h _ => by simp at h⟩
  | _ :: _, [] => ⟨fun h _ => by unfold lcp at h; simp at h, fun h _ => by unfold lcp at h; simp at h, fun _ _ => rfl, fun a b _ h => by simp at h⟩
  | a :: r, b :: s => by
    obtain ⟨h1, h2, h3, h4⟩ := ordC_at r s
    unfold lcp ordC
    by_cases e : a = b
    · rw [if_pos e, if_pos e]
      simp only [List.length_cons, List.getElem?_cons_succ]
      exact ⟨fun p q => h1 (by omega) (by omega), fun p q => h2 (by omega) (by omega), fun p q => h3 (by omega) (by omega), h4⟩
    · rw [if_neg e, if_neg e]
      simp only [List.length_cons, List.getElem?_cons_zero]
      refine ⟨fun p => by omega, fun p => by omega, fun _ p => by omega, fun c d p q => ?_⟩
      cases p; cases q
      rfl
theorem ordC_neg : ∀ (x y : List Nat), ordC y x = - ordC x y
  | [], [] => rfl
  | [], _ :: _ => rfl
  | _ :: _, [] => rfl
  | a :: r, b :: s => by
    have ih := ordC_neg r s
    unfold ordC
    by_cases e : a = b
    · rw [if_pos e, if_pos e.symm, ih]
    · rw [if_neg e, if_neg fun z => e z.symm]
      by_cases l : a < b
      · rw [if_pos l, if_neg (by omega)]; rfl
      · rw [if_neg l, if_pos (by omega)]
theorem lt_ord : ∀ x y : List Nat, x < y ↔ ordC x y < 0
  | [], [] => by unfold ordC; exact ⟨fun h => absurd h (by simp), fun h => absurd h (by omega)⟩
  | [], _ :: _ => by unfold ordC; exact ⟨fun _ => by omega, fun _ => List.nil_lt_cons _ _⟩
  | _ :: _, [] => by unfold ordC; exact ⟨fun h => absurd h (List.not_lt_nil _), fun h => absurd h (by omega)⟩
  | a :: r, b :: s => by
    have ih := lt_ord r s
    unfold ordC
    rw [List.cons_lt_cons_iff]
    by_cases e : a = b
    · rw [if_pos e, ← ih]
      exact ⟨fun h => h.elim (fun z => by omega) (fun z => z.2), fun h => .inr ⟨e, h⟩⟩
    · rw [if_neg e]
      by_cases l : a < b
      · rw [if_pos l]; exact ⟨fun _ => by omega, fun _ => .inl l⟩
      · rw [if_neg l]; exact ⟨fun h => h.elim (fun z => absurd z l) (fun z => absurd z.1 e), fun h => absurd h (by omega)⟩
theorem len_cds (z : Str) : (cds z).length = z.length := by simp [Str.length]
theorem one_lt (a b : Nat) : decide ((⟨#[a]⟩ : Str).cps.toList < (⟨#[b]⟩ : Str).cps.toList) = decide (a < b) := by
  have e : ([a] : List Nat) < [b] ↔ a < b := by
    constructor
    · intro h
      cases h with
      | rel h => exact h
      | cons h => cases h
    · exact fun h => List.Lex.rel h
  exact decide_eq_decide.mpr e
def spOrder : Sp := fun vs H Q _ => ∃ x y : Str, vs = [.str x, .str y, .int (lcp (cds x) (cds y) : Nat)] ∧ x.length ≤ 1000 ∧ y.length ≤ 1000 ∧ Q (.int (ordC (cds x) (cds y))) H
def spLikenFrom : Sp := fun vs H Q _ => ∃ (x y : Str) (far : Nat), vs = [.str x, .str y, .int far] ∧ x.length ≤ 1000 ∧ y.length ≤ 1000 ∧ far ≤ lcp (cds x) (cds y) ∧
  ∀ t, H t = none → Q (.ref t) (upd H t (.tup [.int (ordC (cds x) (cds y)), .int (lcp (cds x) (cds y) : Nat), .int ((lcp (cds x) (cds y) : Nat) - (far : Int) + 1)]))
theorem ok_order (T : Tops K mg) : Df P w K mg base 1 "order_at" ["one", "other", "at"] spOrder := by
  refine T.t_order_at.df sc_order_at (fun vs H Q E h => ?_) (fun cdv f A outer s H vs Q E hr h => ?_)
  · obtain ⟨x, y, rfl, _⟩ := h
    rfl
  obtain ⟨x, y, rfl, hx, hy, q⟩ := h
  refine ⟨_, (@pss_cons _ _ _ _ _ (@ps_if _ _ _ _ _ _ _ _ (@PW.pt _ _ _ (@pw_and _ _ _ _ _ _ _ (@pt_cmpR _ _ _ _ _ _ _ _ op_eq (@pv _ 2 _ _ (by rfl) (Or.inl rfl) (by decide) (by decide)) (@pe_callB _ _ _ _ _ _ _ _ _ call_len_str (by rfl) T.b.n_len PySem.boot_len (@pa_cons _ _ _ _ _ (@pv _ 0 _ _ (by rfl) (Or.inl rfl) (by decide) (by decide)) (@pa_nil _) (by rfl)) (by decide) (by decide) (by rfl) (by rfl)) (nomark _)) (@pw_and1 _ _ _ _ (@pt_cmpR _ _ _ _ _ _ _ _ op_eq (@pv _ 2 _ _ (by rfl) (Or.inl rfl) (by decide) (by decide)) (@pe_callB _ _ _ _ _ _ _ _ _ call_len_str (by rfl) T.b.n_len PySem.boot_len (@pa_cons _ _ _ _ _ (@pv _ 1 _ _ (by rfl) (Or.inl rfl) (by decide) (by decide)) (@pa_nil _) (by rfl)) (by decide) (by decide) (by rfl) (by rfl)) (nomark _))))) (@pss_one _ _ _ (@ps_ret _ _ _ _ (@pe_int _ _ _ _))) (@pss_nil _)) (@pss_cons _ _ _ _ _ (@ps_if _ _ _ _ _ _ _ _ (@pt_cmpR _ _ _ _ _ _ _ _ op_eq (@pv _ 2 _ _ (by rfl) (Or.inl rfl) (by decide) (by decide)) (@pe_callB _ _ _ _ _ _ _ _ _ call_len_str (by rfl) T.b.n_len PySem.boot_len (@pa_cons _ _ _ _ _ (@pv _ 0 _ _ (by rfl) (Or.inl rfl) (by decide) (by decide)) (@pa_nil _) (by rfl)) (by decide) (by decide) (by rfl) (by rfl)) (nomark _)) (@pss_one _ _ _ (@ps_ret _ _ _ _ (@pe_un _ _ _ _ _ _ un_neg (@pe_int _ _ _ _)))) (@pss_nil _)) (@pss_cons _ _ _ _ _ (@ps_if _ _ _ _ _ _ _ _ (@pt_cmpR _ _ _ _ _ _ _ _ op_eq (@pv _ 2 _ _ (by rfl) (Or.inl rfl) (by decide) (by decide)) (@pe_callB _ _ _ _ _ _ _ _ _ call_len_str (by rfl) T.b.n_len PySem.boot_len (@pa_cons _ _ _ _ _ (@pv _ 1 _ _ (by rfl) (Or.inl rfl) (by decide) (by decide)) (@pa_nil _) (by rfl)) (by decide) (by decide) (by rfl) (by rfl)) (nomark _)) (@pss_one _ _ _ (@ps_ret _ _ _ _ (@pe_int _ _ _ _))) (@pss_nil _)) (@pss_one _ _ _ (@ps_ret _ _ _ _ (@pe_ifExp _ _ _ _ _ _ _ _ (@pt_cmpR _ _ _ _ _ _ _ _ op_lt_str (@pe_ix _ _ _ _ _ _ _ ix_str (@pv _ 0 _ _ (by rfl) (Or.inl rfl) (by decide) (by decide)) (@pv _ 2 _ _ (by rfl) (Or.inl rfl) (by decide) (by decide)) (fun _ _ => rfl)) (@pe_ix _ _ _ _ _ _ _ ix_str (@pv _ 1 _ _ (by rfl) (Or.inl rfl) (by decide) (by decide)) (@pv _ 2 _ _ (by rfl) (Or.inl rfl) (by decide) (by decide)) (fun _ _ => rfl)) (nomark _)) (@pe_un _ _ _ _ _ _ un_neg (@pe_int _ _ _ _)) (@pe_int _ _ _ _))))))), ?_⟩
  obtain ⟨o1, o2, o3, o4⟩ := ordC_at (cds x) (cds y)
  have ll := lcp_le (cds x) (cds y)
  have lx := len_cds x
  have ly := len_cds y
  have inj : ∀ {m n : Nat}, V.int (m : Int) = V.int (n : Int) → m = n := fun {m n} e => by injection e with e; omega
  refine ⟨_, rfl, _, rfl, x, rfl, small hx, rfl, _, rfl, ite2 (fun d => ?_) (fun d => ?_)⟩
  · have d1 := inj (of_decide_eq_true d)
    refine ⟨_, rfl, _, rfl, y, rfl, small hy, rfl, _, rfl, ite2 (fun d2 => ?_) (fun d2 => ?_)⟩
    · have d2' := inj (of_decide_eq_true d2)
      rw [o1 (by omega) (by omega)] at q
      exact q
    · have d2' : ¬ lcp (cds x) (cds y) = y.length := fun e => d2 (by rw [e]; exact decide_eq_true rfl)
      refine ⟨_, rfl, _, rfl, x, rfl, small hx, rfl, _, rfl, iteD (by rw [d1]) ?_⟩
      rw [o2 (by omega) (by omega)] at q
      exact ⟨_, rfl, q⟩
  · have d1 : ¬ lcp (cds x) (cds y) = x.length := fun e => d (by rw [e]; exact decide_eq_true rfl)
    refine iteF ⟨_, rfl, _, rfl, x, rfl, small hx, rfl, _, rfl, iteDN (fun e => d1 (inj e)) ?_⟩
    refine ⟨_, rfl, _, rfl, y, rfl, small hy, rfl, _, rfl, ite2 (fun d2 => ?_) (fun d2 => ?_)⟩
    · have d2' := inj (of_decide_eq_true d2)
      rw [o3 (by omega) (by omega)] at q
      exact q
    · have d2' : ¬ lcp (cds x) (cds y) = y.length := fun e => d2 (by rw [e]; exact decide_eq_true rfl)
      obtain ⟨a, ha, ha'⟩ := at_code (z := x) (k := (lcp (cds x) (cds y) : Nat)) (by omega) (by omega)
      obtain ⟨b, hb, hb'⟩ := at_code (z := y) (k := (lcp (cds x) (cds y) : Nat)) (by omega) (by omega)
      rw [Int.toNat_natCast] at ha hb
      refine ⟨_, rfl, _, rfl, x, _, a, rfl, rfl, small hx, ha', _, rfl, _, rfl, y, _, b, rfl, rfl, small hy, hb', _, _, rfl, rfl, _, rfl, ?_⟩
      rw [one_lt]
      rw [o4 a b ha hb] at q
      refine ite2 (fun e => ?_) (fun e => ?_)
      · rw [if_pos (of_decide_eq_true e)] at q
        exact ⟨_, rfl, q⟩
      · rw [if_neg (fun z => e (decide_eq_true z))] at q
        exact q
theorem ok_liken_from (T : Tops K mg) (f_alike_from : Df P w K mg base 1 "alike_from" ["one", "other", "far"] spAlikeFrom) (f_order_at : Df P w K mg base 1 "order_at" ["one", "other", "at"] spOrder) : Df P w K mg base 2 "liken_from" ["one", "other", "far"] spLikenFrom := by
  refine T.t_liken_from.df sc_liken_from (fun vs H Q E h => ?_) (fun cdv f A outer s H vs Q E hr h => ?_)
  · obtain ⟨x, y, far, rfl, _⟩ := h
    rfl
  obtain ⟨x, y, far, rfl, hx, hy, hf, q⟩ := h
  refine ⟨_, (@pss_cons _ _ _ _ _ (@ps_set _ _ 3 _ _ _ _ sc_liken_from.nd rfl (Or.inl rfl) (@pe_df _ _ _ _ _ _ _ _ _ _ _ f_alike_from hr (@pa_cons _ _ _ _ _ (@pv _ 0 _ _ (by rfl) (Or.inl rfl) (by decide) (by decide)) (@pa_cons _ _ _ _ _ (@pv _ 1 _ _ (by rfl) (Or.inl rfl) (by decide) (by decide)) (@pa_cons _ _ _ _ _ (@pv _ 2 _ _ (by rfl) (Or.inl rfl) (by decide) (by decide)) (@pa_nil _) (by rfl)) (by rfl)) (by rfl)) (by first | decide | exact Nat.le_refl _ | omega) (by rfl) (by decide) (by rfl) (by rfl)) (by rfl) (by first | exact .inl rfl | exact .inr rfl)) (@pss_one _ _ _ (@ps_ret _ _ _ _ (@pe_tup _ _ _ _ _ (@pa_cons _ _ _ _ _ (@pe_df _ _ _ _ _ _ _ _ _ _ _ f_order_at hr (@pa_cons _ _ _ _ _ (@pv _ 0 _ _ (by rfl) (Or.inl rfl) (by decide) (by decide)) (@pa_cons _ _ _ _ _ (@pv _ 1 _ _ (by rfl) (Or.inl rfl) (by decide) (by decide)) (@pa_cons _ _ _ _ _ (@pv _ 3 _ _ (by rfl) (Or.inl rfl) (by decide) (by decide)) (@pa_nil _) (by rfl)) (by rfl)) (by rfl)) (by first | decide | exact Nat.le_refl _ | omega) (by rfl) (by decide) (by rfl) (by rfl)) (@pa_cons _ _ _ _ _ (@pv _ 3 _ _ (by rfl) (Or.inl rfl) (by decide) (by decide)) (@pa_cons _ _ _ _ _ (@pe_op _ _ _ _ _ _ _ _ op_add (@pe_op _ _ _ _ _ _ _ _ op_sub (@pv _ 3 _ _ (by rfl) (Or.inl rfl) (by decide) (by decide)) (@pv _ 2 _ _ (by rfl) (Or.inl rfl) (by decide) (by decide))) (@pe_int _ _ _ _)) (@pa_nil _) (by rfl)) (by rfl)) (by rfl)))))), ?_⟩
  refine ⟨_, rfl, _, rfl, _, rfl, x, y, far, rfl, hx, hy, hf, ?_⟩
  refine ⟨_, rfl, _, rfl, _, rfl, x, y, rfl, hx, hy, ?_⟩
  refine ⟨_, rfl, _, rfl, _, rfl, _, _, rfl, rfl, _, _, rfl, rfl, (by show 3 ≤ sizeLine; decide), fun t ht => ?_⟩
  exact q t ht
/-! ### papers -/
abbrev Tri := Int × Int × Int
abbrev KE := List (Str × Int)
def q3 (e : Tri) : List Key := [.inl e.1, .inl e.2.1, .inl e.2.2]
def tV (e : Tri) : List V := [.int e.1, .int e.2.1, .int e.2.2]
def t3D (e : Tri) : PyData := .tuple [.int e.1, .int e.2.1, .int e.2.2]
theorem cds_len (s : Str) : (cds s).length = s.length := by unfold cds; simp; rfl
def kvE (E : KE) : List (Key × V) := E.map fun e => (.inl e.2, .str e.1)
def rowsE (E : KE) : List Int := E.map (·.2)
theorem kvE_keys (E : KE) : (kvE E).map (·.1) = (rowsE E).map Sum.inl := by unfold kvE rowsE; rw [List.map_map, List.map_map]; rfl
theorem inl_nd {l : List Int} (h : l.Nodup) : (l.map (Sum.inl : Int → Key)).Nodup := List.Pairwise.map _ (fun a b hab e => hab (Sum.inl.inj e)) h
theorem kvE_at {E : KE} (hn : (rowsE E).Nodup) {z : Str} {r : Int} (h : (z, r) ∈ E) : valV (kvE E) (.inl r) = some (.str z) :=
  valV_of_mem (by rw [kvE_keys]; exact inl_nd hn) (List.mem_map_of_mem (f := fun e : Str × Int => ((Sum.inl e.2 : Key), V.str e.1)) h)
theorem kvE_some {E : KE} {r : Int} {v : V} (h : valV (kvE E) (.inl r) = some v) : ∃ z, v = .str z ∧ (z, r) ∈ E := by
  obtain ⟨e, he, e1⟩ := List.mem_map.mp (valV_mem h)
  injection e1 with e1 e2
  injection e1 with e1
  exact ⟨e.1, e2.symm, by rw [← e1]; exact he⟩
theorem kvE_none {E : KE} {r : Int} (h : valV (kvE E) (.inl r) = none) : r ∉ rowsE E := fun hr => by
  have := valV_not h
  rw [kvE_keys] at this
  exact this (List.mem_map_of_mem hr)
def ahK (l : List Int) : List (Key × V) := l.map fun r => (.inl r, .bl true)
theorem ahK_keys (l : List Int) : (ahK l).map (·.1) = l.map Sum.inl := by unfold ahK; rw [List.map_map]; rfl
theorem ahK_some {l : List Int} {r : Int} {v : V} (h : valV (ahK l) (.inl r) = some v) : r ∈ l := by
  have := valV_in h
  rw [ahK_keys] at this
  obtain ⟨x, hx, e⟩ := List.mem_map.mp this
  rw [← Sum.inl.inj e]; exact hx
theorem ahK_none {l : List Int} {r : Int} (h : valV (ahK l) (.inl r) = none) : r ∉ l := fun hr => by
  have := valV_not h
  rw [ahK_keys] at this
  exact this (List.mem_map_of_mem hr)
theorem dget {H : Hp} {D : Addr} {kvs : List (Key × V)} {r : Int} {o : Option V} (h : H D = some (.dK kvs)) (e : valV kvs (.inl r) = o) : DGet H D (.int r) o := e ▸ DGet.k (k := .inl r) h
/-- an entry's row lost to its winner -/
def Lost (E : KE) (e : Tri) : Prop := ∃ z y, (z, e.1) ∈ E ∧ (y, e.2.1) ∈ E ∧ e.2.2 = (lcp (cds z) (cds y) : Nat) ∧ (0 < ordC (cds z) (cds y) ∨ (ordC (cds z) (cds y) = 0 ∧ e.2.1 < e.1))
def rowsL (L : List Tri) : List Int := L.map (·.1)
def OkAt (E : KE) (n : Int) (P : List Tri) (e : Tri) : Prop := e.1 ∈ rowsE E ∧ e.1 ∉ n :: rowsL P ∧ e.2.1 ∈ n :: rowsL P ∧ Lost E e
def PapOk (E : KE) (n : Int) (L : List Tri) : Prop := n ∈ rowsE E ∧ (∀ i e, L[i]? = some e → OkAt E n (L.take i) e) ∧ L.length + 1 = E.length
def Shown (E : KE) (nv : V) (d : PyData) : Prop := (nv = .non ∧ E = [] ∧ d = .list []) ∨ ∃ n L, nv = .int n ∧ d = .list (L.map t3D) ∧ PapOk E n L
def ShowB (E : KE) (nv : V) (d : PyData) (b : Bool) : Prop := b = true ↔ Shown E nv d
theorem ShowB.no {E : KE} {nv : V} {d : PyData} {b : Bool} (h : ShowB E nv d b) (n : ¬ Shown E nv d) : b = false := by
  cases hb : b with
  | false => rfl
  | true => exact absurd (h.mp hb) n
theorem ShowB.ex (E : KE) (nv : V) (d : PyData) : ∃ b, ShowB E nv d b := by
  by_cases h : Shown E nv d
  · exact ⟨true, fun _ => h, fun _ => rfl⟩
  · exact ⟨false, fun z => (Bool.false_ne_true z).elim, fun z => absurd z h⟩
theorem t3D_inj {e f : Tri} (h : t3D e = t3D f) : e = f := by
  obtain ⟨a, b, c⟩ := e
  obtain ⟨a', b', c'⟩ := f
  simp only [t3D, PyData.tuple.injEq, List.cons.injEq, PyData.int.injEq, and_true] at h
  rw [h.1, h.2.1, h.2.2]
theorem t3Ds_inj : ∀ {L M : List Tri}, L.map t3D = M.map t3D → L = M
  | [], [], _ => rfl
  | [], _ :: _, h => by cases h
  | _ :: _, [], h => by cases h
  | a :: L, b :: M, h => by
    injection h with h1 h2
    rw [t3D_inj h1, t3Ds_inj h2]
def isTripD : PyData → Bool
  | .tuple [a, b, c] => isIntD a && isIntD b && isIntD c
  | _ => false
theorem trip_inv {H : Hp} {x : V} {d : PyData} (h : DH H x d) (e : isTripD d = true) : ∃ t u, x = .ref t ∧ d = t3D u ∧ H t = some (.tup (tV u)) := by
  cases h with
  | tup ht hs =>
    cases hs with
    | nil => cases e
    | cons h1 r1 =>
      cases r1 with
      | nil => cases e
      | cons h2 r2 =>
        cases r2 with
        | nil => cases e
        | cons h3 r3 =>
          cases r3 with
          | cons h4 r4 => cases e
          | nil =>
            simp only [isTripD, Bool.and_eq_true] at e
            obtain ⟨i, rfl, rfl⟩ := h1.int_inv e.1.1
            obtain ⟨j, rfl, rfl⟩ := h2.int_inv e.1.2
            obtain ⟨k, rfl, rfl⟩ := h3.int_inv e.2
            exact ⟨_, (i, j, k), rfl, rfl, ht⟩
  | non => cases e
  | bl b => cases e
  | int i => cases e
  | str z => cases e
  | lst h hs => cases e
theorem trip_t3 (u : Tri) : isTripD (t3D u) = true := rfl
def spNumH : Sp := fun vs H Q _ => ∃ (x : V) (d : PyData), vs = [x] ∧ DH H x d ∧ Q (.bl (isIntD d)) H
theorem ok_numH (T : Tops K mg) : Df P w K mg base 1 "is_number" ["thing"] spNumH := by
  refine T.t_is_number.df sc_is_number (fun vs H Q E h => ?_) (fun cdv f A outer s H vs Q E hr h => ?_)
  · obtain ⟨x, d, rfl, _⟩ := h
    rfl
  obtain ⟨x, d, rfl, hd, q⟩ := h
  refine ⟨_, (@pss_one _ _ _ (@ps_ret _ _ _ _ (@pe_and _ _ _ _ _ _ _ (@pe_callB _ _ _ _ _ _ _ _ _ (isiQ K) (by rfl) T.b.n_isinstance boot_isinstance (@pa_cons _ _ _ _ _ (@pv _ 0 _ _ (by rfl) (Or.inl rfl) (by decide) (by decide)) (@pa_cons _ _ _ _ _ (@pe_ty _ _ _ _ T.b.n_int boot_int (by rfl) (by decide) (by decide)) (@pa_nil _) (by rfl)) (by rfl)) (by decide) (by decide) (by rfl) (by rfl)) (@pe_one _ _ _ _ _ (@pe_not _ _ _ _ (@pe_callB _ _ _ _ _ _ _ _ _ (isiQ K) (by rfl) T.b.n_isinstance boot_isinstance (@pa_cons _ _ _ _ _ (@pv _ 0 _ _ (by rfl) (Or.inl rfl) (by decide) (by decide)) (@pa_cons _ _ _ _ _ (@pe_ty _ _ _ _ T.b.n_bool boot_bool (by rfl) (by decide) (by decide)) (@pa_nil _) (by rfl)) (by rfl)) (by decide) (by decide) (by rfl) (by rfl))))))), ?_⟩
  have h1 := hd.kI K
  have h2 := hd.kB K
  have ht := hd.ty (K := K)
  cases hd with
  | int i => exact ⟨_, rfl, _, "int", _, _, rfl, ht, h1, _, rfl, iteT ⟨_, rfl, _, "bool", _, _, rfl, ht, h2, _, rfl, q⟩⟩
  | bl b => exact ⟨_, rfl, _, "int", _, _, rfl, ht, h1, _, rfl, iteT ⟨_, rfl, _, "bool", _, _, rfl, ht, h2, _, rfl, q⟩⟩
  | non => exact ⟨_, rfl, _, "int", _, _, rfl, ht, h1, _, rfl, iteF q⟩
  | str z => exact ⟨_, rfl, _, "int", _, _, rfl, ht, h1, _, rfl, iteF q⟩
  | lst _ _ => exact ⟨_, rfl, _, "int", _, _, rfl, ht, h1, _, rfl, iteF q⟩
  | tup _ _ => exact ⟨_, rfl, _, "int", _, _, rfl, ht, h1, _, rfl, iteF q⟩
def spTrip : Sp := fun vs H Q _ => ∃ (x : V) (d : PyData), vs = [x] ∧ DH H x d ∧ Q (.bl (isTripD d)) H
theorem ok_trip (T : Tops K mg) (f_is_number : Df P w K mg base 1 "is_number" ["thing"] spNumH) : Df P w K mg base 2 "is_triple" ["thing"] spTrip := by
  refine T.t_is_triple.df sc_is_triple (fun vs H Q E h => ?_) (fun cdv f A outer s H vs Q E hr h => ?_)
  · obtain ⟨x, d, rfl, _⟩ := h
    rfl
  obtain ⟨x, d, rfl, hd, q⟩ := h
  refine ⟨_, (@pss_cons _ _ _ _ _ (@ps_if _ _ _ _ _ _ _ _ (@PW.pt _ _ _ (@pw_or _ _ _ _ _ _ _ (@pt_not _ _ _ _ (@pt_val _ _ _ (@pe_callB _ _ _ _ _ _ _ _ _ (isiQ K) (by rfl) T.b.n_isinstance boot_isinstance (@pa_cons _ _ _ _ _ (@pv _ 0 _ _ (by rfl) (Or.inl rfl) (by decide) (by decide)) (@pa_cons _ _ _ _ _ (@pe_ty _ _ _ _ T.b.n_tuple boot_tuple (by rfl) (by decide) (by decide)) (@pa_nil _) (by rfl)) (by rfl)) (by decide) (by decide) (by rfl) (by rfl)) (by intro _; rfl))) (@pw_or1 _ _ _ _ (@pt_cmpR _ _ _ _ _ _ _ _ op_ne (@pe_callB _ _ _ _ _ _ _ _ _ (lenQ K) (by rfl) T.b.n_len PySem.boot_len (@pa_cons _ _ _ _ _ (@pv _ 0 _ _ (by rfl) (Or.inl rfl) (by decide) (by decide)) (@pa_nil _) (by rfl)) (by decide) (by decide) (by rfl) (by rfl)) (@pe_int _ _ _ _) (nomark _))))) (@pss_one _ _ _ (@ps_ret _ _ _ _ (@pe_bl _ _ _ _))) (@pss_nil _)) (@pss_one _ _ _ (@ps_ret _ _ _ _ (@pe_and _ _ _ _ _ _ _ (@pe_df _ _ _ _ _ _ _ _ _ _ _ f_is_number hr (@pa_cons _ _ _ _ _ (@pe_ix _ _ _ _ _ _ _ (ixT K) (@pv _ 0 _ _ (by rfl) (Or.inl rfl) (by decide) (by decide)) (@pe_int _ _ _ _) (fun _ _ => rfl)) (@pa_nil _) (by rfl)) (by first | decide | exact Nat.le_refl _ | omega) (by rfl) (by decide) (by rfl) (by rfl)) (@pe_and _ _ _ _ _ _ _ (@pe_df _ _ _ _ _ _ _ _ _ _ _ f_is_number hr (@pa_cons _ _ _ _ _ (@pe_ix _ _ _ _ _ _ _ (ixT K) (@pv _ 0 _ _ (by rfl) (Or.inl rfl) (by decide) (by decide)) (@pe_int _ _ _ _) (fun _ _ => rfl)) (@pa_nil _) (by rfl)) (by first | decide | exact Nat.le_refl _ | omega) (by rfl) (by decide) (by rfl) (by rfl)) (@pe_one _ _ _ _ _ (@pe_df _ _ _ _ _ _ _ _ _ _ _ f_is_number hr (@pa_cons _ _ _ _ _ (@pe_ix _ _ _ _ _ _ _ (ixT K) (@pv _ 0 _ _ (by rfl) (Or.inl rfl) (by decide) (by decide)) (@pe_int _ _ _ _) (fun _ _ => rfl)) (@pa_nil _) (by rfl)) (by first | decide | exact Nat.le_refl _ | omega) (by rfl) (by decide) (by rfl) (by rfl)))))))), ?_⟩
  have h1 := hd.kT K
  have ht := hd.ty (K := K)
  cases hd with
  | @tup a xs ds hH hs =>
    refine ⟨_, rfl, _, "tuple", _, _, rfl, ht, h1, _, rfl, iteF ?_⟩
    have hl := hs.length
    refine ⟨_, rfl, a, _, rfl, .inr (SqT.of hH), rfl, _, rfl, ?_⟩
    by_cases h3 : xs.length = 3
    · obtain ⟨x1, x2, x3, rfl⟩ : ∃ x1 x2 x3, xs = [x1, x2, x3] := by
        cases xs with
        | nil => simp at h3
        | cons x1 r => cases r with
          | nil => simp at h3
          | cons x2 r => cases r with
            | nil => simp at h3
            | cons x3 r => cases r with
              | nil => exact ⟨_, _, _, rfl⟩
              | cons _ _ => simp at h3
      obtain ⟨d1, d2, d3, rfl⟩ : ∃ d1 d2 d3, ds = [d1, d2, d3] := by
        cases ds with
        | nil => simp at hl
        | cons x1 r => cases r with
          | nil => simp at hl
          | cons x2 r => cases r with
            | nil => simp at hl
            | cons x3 r => cases r with
              | nil => exact ⟨_, _, _, rfl⟩
              | cons _ _ => simp at hl
      cases hs with
      | cons g1 hs => cases hs with
        | cons g2 hs => cases hs with
          | cons g3 hs =>
            refine iteNS (by rfl) ?_
            refine ⟨_, rfl, a, _, _, _, rfl, rfl, SqT.of hH, rfl, x1, d1, rfl, g1, _, rfl, ?_⟩
            cases hi1 : isIntD d1 with
            | false => simp only [isTripD, hi1, Bool.false_and] at q; exact iteF q
            | true =>
              refine iteT ⟨_, rfl, a, _, _, _, rfl, rfl, SqT.of hH, rfl, x2, d2, rfl, g2, _, rfl, ?_⟩
              cases hi2 : isIntD d2 with
              | false => simp only [isTripD, hi1, hi2, Bool.false_and, Bool.and_false] at q; exact iteF q
              | true =>
                refine iteT ⟨_, rfl, a, _, _, _, rfl, rfl, SqT.of hH, rfl, x3, d3, rfl, g3, ?_⟩
                simp only [isTripD, hi1, hi2, Bool.true_and] at q
                exact q
    · refine iteNN (fun z => h3 (by injection z with z; omega)) ?_
      have : isTripD (.tuple ds) = false := by
        cases ds with
        | nil => rfl
        | cons x1 r => cases r with
          | nil => rfl
          | cons x2 r => cases r with
            | nil => rfl
            | cons x3 r => cases r with
              | nil => exact absurd hl h3
              | cons _ _ => rfl
      rw [this] at q
      exact q
  | int i => exact ⟨_, rfl, _, "tuple", _, _, rfl, ht, h1, _, rfl, iteT (iteT q)⟩
  | bl b => exact ⟨_, rfl, _, "tuple", _, _, rfl, ht, h1, _, rfl, iteT (iteT q)⟩
  | non => exact ⟨_, rfl, _, "tuple", _, _, rfl, ht, h1, _, rfl, iteT (iteT q)⟩
  | str z => exact ⟨_, rfl, _, "tuple", _, _, rfl, ht, h1, _, rfl, iteT (iteT q)⟩
  | lst _ _ => exact ⟨_, rfl, _, "tuple", _, _, rfl, ht, h1, _, rfl, iteT (iteT q)⟩
def spGreater : Sp := fun vs H Q _ => ∃ (D p t : Addr) (E : KE) (l : List Int) (e : Tri) (b : Bool), vs = [.ref D, .ref p, .ref t] ∧ H D = some (.dK (kvE E)) ∧ H p = some (.dK (ahK l)) ∧ H t = some (.tup (tV e)) ∧ (rowsE E).Nodup ∧ (∀ u ∈ E, u.1.length ≤ 1000) ∧ (∀ r ∈ l, r ∈ rowsE E) ∧
  (b = true ↔ (e.1 ∈ rowsE E ∧ e.1 ∉ l ∧ e.2.1 ∈ l ∧ Lost E e)) ∧ ∀ H', Same H H' → Q (.bl b) H'
theorem rows_at {E : KE} {r : Int} (h : r ∈ rowsE E) : ∃ z, (z, r) ∈ E := by
  obtain ⟨e, he, rfl⟩ := List.mem_map.mp h
  exact ⟨e.1, he⟩
theorem key_one {E : KE} (hn : (rowsE E).Nodup) {z y : Str} {r : Int} (h1 : (z, r) ∈ E) (h2 : (y, r) ∈ E) : z = y := by
  have a := kvE_at hn h1
  rw [kvE_at hn h2] at a
  injection a with a
  injection a with a
  exact a.symm
theorem ok_greater (T : Tops K mg) (f_liken_from : Df P w K mg base 2 "liken_from" ["one", "other", "far"] spLikenFrom) : Df P w K mg base 3 "shows_greater" ["keyed", "ahead", "entry"] spGreater := by
  refine T.t_shows_greater.df sc_shows_greater (fun vs H Q E h => ?_) (fun cdv f A outer s H vs Q E hr h => ?_)
  · obtain ⟨D, p, t, E', l, e, b, rfl, _⟩ := h
    rfl
  obtain ⟨D, p, t, E, l, e, b, rfl, hD, hp, ht, hn, hlen, hl, hb, q⟩ := h
  refine ⟨_, (@pss_cons _ _ _ _ _ (@ps_asg _ _ _ _ _ _ (@pv _ 2 _ _ (by rfl) (Or.inl rfl) (by decide) (by decide)) (@gT _ K _ _ _ 3 _ (@pgs_cons _ _ _ _ _ (@pg_name _ _ 3 _ sc_shows_greater.nd rfl (Or.inl rfl) (by first | exact .inl rfl | exact .inr rfl)) (@pgs_cons _ _ _ _ _ (@pg_name _ _ 4 _ sc_shows_greater.nd rfl (Or.inl rfl) (by first | exact .inl rfl | exact .inr rfl)) (@pgs_cons _ _ _ _ _ (@pg_name _ _ 5 _ sc_shows_greater.nd rfl (Or.inl rfl) (by first | exact .inl rfl | exact .inr rfl)) (@pgs_nil _) (by rfl)) (by rfl)) (by rfl)) (by rfl) (by rfl) (by rfl) (by rfl)) (by rfl) (by rfl) (by rfl)) (@pss_cons _ _ _ _ _ (@ps_if _ _ _ _ _ _ _ _ (@PW.pt _ _ _ (@pw_or _ _ _ _ _ _ _ (@pt_cmpR _ _ _ _ _ _ _ _ (notInG hr) (@pv _ 3 _ _ (by rfl) (Or.inl rfl) (by decide) (by decide)) (@pv _ 0 _ _ (by rfl) (Or.inl rfl) (by decide) (by decide)) (by with_unfolding_all rfl)) (@pw_or _ _ _ _ _ _ _ (@pt_cmpR _ _ _ _ _ _ _ _ (inG hr) (@pv _ 3 _ _ (by rfl) (Or.inl rfl) (by decide) (by decide)) (@pv _ 1 _ _ (by rfl) (Or.inl rfl) (by decide) (by decide)) (by with_unfolding_all rfl)) (@pw_or1 _ _ _ _ (@pt_cmpR _ _ _ _ _ _ _ _ (notInG hr) (@pv _ 4 _ _ (by rfl) (Or.inl rfl) (by decide) (by decide)) (@pv _ 1 _ _ (by rfl) (Or.inl rfl) (by decide) (by decide)) (by with_unfolding_all rfl)))))) (@pss_one _ _ _ (@ps_ret _ _ _ _ (@pe_bl _ _ _ _))) (@pss_nil _)) (@pss_cons _ _ _ _ _ (@ps_asg _ _ _ _ _ _ (@pe_df _ _ _ _ _ _ _ _ _ _ _ f_liken_from hr (@pa_cons _ _ _ _ _ (@pe_ix _ _ _ _ _ _ _ (ixG hr) (@pv _ 0 _ _ (by rfl) (Or.inl rfl) (by decide) (by decide)) (@pv _ 3 _ _ (by rfl) (Or.inl rfl) (by decide) (by decide)) (fun _ _ => rfl)) (@pa_cons _ _ _ _ _ (@pe_ix _ _ _ _ _ _ _ (ixG hr) (@pv _ 0 _ _ (by rfl) (Or.inl rfl) (by decide) (by decide)) (@pv _ 4 _ _ (by rfl) (Or.inl rfl) (by decide) (by decide)) (fun _ _ => rfl)) (@pa_cons _ _ _ _ _ (@pe_int _ _ _ _) (@pa_nil _) (by rfl)) (by rfl)) (by rfl)) (by first | decide | exact Nat.le_refl _ | omega) (by rfl) (by decide) (by rfl) (by rfl)) (@gT _ K _ _ _ 3 _ (@pgs_cons _ _ _ _ _ (@pg_name _ _ 6 _ sc_shows_greater.nd rfl (Or.inl rfl) (by first | exact .inl rfl | exact .inr rfl)) (@pgs_cons _ _ _ _ _ (@pg_name _ _ 7 _ sc_shows_greater.nd rfl (Or.inl rfl) (by first | exact .inl rfl | exact .inr rfl)) (@pgs_cons _ _ _ _ _ (@pg_name _ _ 8 _ sc_shows_greater.nd rfl (Or.inl rfl) (by first | exact .inl rfl | exact .inr rfl)) (@pgs_nil _) (by rfl)) (by rfl)) (by rfl)) (by rfl) (by rfl) (by rfl) (by rfl)) (by rfl) (by rfl) (by rfl)) (@pss_one _ _ _ (@ps_ret _ _ _ _ (@pe_and _ _ _ _ _ _ _ (@pe_cmpR _ _ _ _ _ _ _ _ op_eq (@pv _ 5 _ _ (by rfl) (Or.inl rfl) (by decide) (by decide)) (@pv _ 7 _ _ (by rfl) (Or.inl rfl) (by decide) (by decide)) (nomark _)) (@pe_one _ _ _ _ _ (@pe_or _ _ _ _ _ _ _ (@pe_cmpR _ _ _ _ _ _ _ _ op_gt (@pv _ 6 _ _ (by rfl) (Or.inl rfl) (by decide) (by decide)) (@pe_int _ _ _ _) (nomark _)) (@pe_one _ _ _ _ _ (@pe_and _ _ _ _ _ _ _ (@pe_cmpR _ _ _ _ _ _ _ _ op_eq (@pv _ 6 _ _ (by rfl) (Or.inl rfl) (by decide) (by decide)) (@pe_int _ _ _ _) (nomark _)) (@pe_one _ _ _ _ _ (@pe_cmpR _ _ _ _ _ _ _ _ op_lt (@pv _ 4 _ _ (by rfl) (Or.inl rfl) (by decide) (by decide)) (@pv _ 3 _ _ (by rfl) (Or.inl rfl) (by decide) (by decide)) (nomark _))))))))))))), ?_⟩
  have no : ¬ (e.1 ∈ rowsE E ∧ e.1 ∉ l ∧ e.2.1 ∈ l ∧ Lost E e) → Q (.bl false) H := fun z => by
    have : b = false := by
      cases hb' : b with
      | false => rfl
      | true => exact absurd (hb.mp hb') z
    rw [← this]; exact q H (Same.refl _)
  refine ⟨_, rfl, t, _, rfl, SqT.of ht, rfl, _, _, rfl, _, _, rfl, _, _, rfl, rfl, ?_⟩
  cases hv : valV (kvE E) (.inl e.1) with
  | none => exact ⟨_, rfl, _, rfl, D, none, rfl, dget hD hv, _, rfl, iteT (iteT (no fun z => kvE_none hv z.1))⟩
  | some v =>
    obtain ⟨z, rfl, hz⟩ := kvE_some hv
    refine ⟨_, rfl, _, rfl, D, _, rfl, dget hD hv, _, rfl, iteF ?_⟩
    cases hv2 : valV (ahK l) (.inl e.1) with
    | some v2 => exact ⟨_, rfl, _, rfl, p, _, rfl, dget hp hv2, _, rfl, iteT (iteT (no fun z => z.2.1 (ahK_some hv2)))⟩
    | none =>
      refine ⟨_, rfl, _, rfl, p, none, rfl, dget hp hv2, _, rfl, iteF ?_⟩
      cases hv3 : valV (ahK l) (.inl e.2.1) with
      | none => exact ⟨_, rfl, _, rfl, p, none, rfl, dget hp hv3, _, rfl, iteT (no fun z => ahK_none hv3 z.2.2.1)⟩
      | some v3 =>
        refine ⟨_, rfl, _, rfl, p, _, rfl, dget hp hv3, _, rfl, iteF ?_⟩
        have hw := ahK_some hv3
        obtain ⟨y, hy⟩ := rows_at (hl _ hw)
        have hvy := kvE_at hn hy
        refine ⟨_, rfl, _, rfl, D, _, rfl, dget hD hv, _, rfl, _, rfl, D, _, rfl, dget hD hvy, z, y, 0, rfl, hlen _ hz, hlen _ hy, Nat.zero_le _, fun t2 ht2 => ?_⟩
        have s2 := same_new ht2 (.tup [.int (ordC (cds z) (cds y)), .int (lcp (cds z) (cds y) : Nat), .int ((lcp (cds z) (cds y) : Nat) - ((0 : Nat) : Int) + 1)])
        refine ⟨t2, _, rfl, SqT.of upd_same, rfl, _, _, rfl, _, _, rfl, _, _, rfl, rfl, ?_⟩
        have fin : ∀ c : Bool, (c = true ↔ (e.2.2 = (lcp (cds z) (cds y) : Nat) ∧ (0 < ordC (cds z) (cds y) ∨ (ordC (cds z) (cds y) = 0 ∧ e.2.1 < e.1)))) → Q (.bl c) (upd H t2 (.tup [.int (ordC (cds z) (cds y)), .int (lcp (cds z) (cds y) : Nat), .int ((lcp (cds z) (cds y) : Nat) - ((0 : Nat) : Int) + 1)])) := fun c hc => by
          have : b = c := by
            rw [Bool.eq_iff_iff, hb, hc]
            constructor
            · rintro ⟨_, _, _, z', y', hz', hy', g⟩
              rw [key_one hn hz' hz, key_one hn hy' hy] at g
              exact g
            · intro g
              exact ⟨List.mem_map_of_mem (f := (·.2)) hz, ahK_none hv2, hw, z, y, hz, hy, g⟩
          rw [← this]; exact q _ s2
        refine ⟨_, rfl, _, rfl, rfl, _, rfl, ?_⟩
        by_cases hf : V.int e.2.2 = V.int ((lcp (cds z) (cds y) : Nat) : Int)
        · have hf' : e.2.2 = (lcp (cds z) (cds y) : Nat) := by injection hf
          refine iteD hf ⟨_, rfl, _, _, rfl, rfl, _, rfl, ?_⟩
          by_cases h0 : 0 < ordC (cds z) (cds y)
          · exact iteD h0 (fin _ ⟨fun _ => ⟨hf', .inl h0⟩, fun _ => rfl⟩)
          · refine iteDN h0 ⟨_, rfl, rfl, _, rfl, ?_⟩
            by_cases h1 : V.int (ordC (cds z) (cds y)) = V.int 0
            · have h1' : ordC (cds z) (cds y) = 0 := by injection h1
              refine iteD h1 ⟨_, rfl, _, rfl, _, _, rfl, rfl, fin _ ⟨fun g => ⟨hf', .inr ⟨h1', of_decide_eq_true g⟩⟩, fun g => ?_⟩⟩
              rcases g.2 with g | g
              · omega
              · exact decide_eq_true g.2
            · refine iteDN h1 (fin _ ⟨fun g => (Bool.false_ne_true g).elim, fun g => ?_⟩)
              rcases g.2 with g | g
              · exact absurd g h0
              · exact absurd (by rw [g.1]) h1
        · refine iteDN hf (fin _ ⟨fun g => (Bool.false_ne_true g).elim, fun g => absurd (by rw [g.1]) hf⟩)
theorem keyed_mem {hs : HeadL} {e : Str × Int} (he : e ∈ keyed hs) : ∃ h ∈ hs, h.2.1 = e.2 ∧ h.2.2 = some e.1 := by
  obtain ⟨h, hh, e1⟩ := List.mem_filterMap.mp he
  cases hz : h.2.2 with
  | none => rw [hz] at e1; cases e1
  | some z => rw [hz] at e1; cases e1; exact ⟨h, hh, rfl, hz⟩
theorem row_new {hs : HeadL} (hri : Rise hs) {i : Nat} {h : Addr × Int × Option Str} (hh : hs[i]? = some h) : h.2.1 ∉ rowsE (keyed (hs.take i)) := fun hm => by
  obtain ⟨z, hz⟩ := rows_at hm
  obtain ⟨y, hy, e1, _⟩ := keyed_mem hz
  obtain ⟨j, hj⟩ := List.mem_iff_getElem?.mp hy
  rw [List.getElem?_take] at hj
  split at hj
  · obtain ⟨j1, j2⟩ := List.getElem?_eq_some_iff.mp hj
    obtain ⟨i1, i2⟩ := List.getElem?_eq_some_iff.mp hh
    have := List.pairwise_iff_getElem.mp hri j i j1 i1 (by assumption)
    rw [j2, i2] at this
    simp only at e1
    omega
  · cases hj
theorem kv_add {hs : HeadL} (hri : Rise hs) {i : Nat} {h : Addr × Int × Option Str} (hh : hs[i]? = some h) {z : Str} (hz : h.2.2 = some z) : kvE (keyed (hs.take (i + 1))) = kvE (keyed (hs.take i)) ++ [(.inl h.2.1, .str z)] := by
  have kt := keyed_take hs i hh
  rw [hz] at kt
  rw [kt]; unfold kvE; rw [List.map_append]; rfl
theorem kv_put {hs : HeadL} (hri : Rise hs) {i : Nat} {h : Addr × Int × Option Str} (hh : hs[i]? = some h) {z : Str} (hz : h.2.2 = some z) : putK (kvE (keyed (hs.take i))) (.inl h.2.1) (.str z) = kvE (keyed (hs.take (i + 1))) := by
  rw [kv_add hri hh hz, putK_new]
  cases hv : valV (kvE (keyed (hs.take i))) (.inl h.2.1) with
  | none => rfl
  | some v =>
    obtain ⟨y, _, hy⟩ := kvE_some hv
    exact absurd (List.mem_map_of_mem (f := (·.2)) hy) (row_new hri hh)
theorem kv_len {hs : HeadL} (hn : hs.length ≤ 16) (i : Nat) : (kvE (keyed (hs.take i))).length < sizeLine := by
  unfold kvE
  rw [List.length_map]
  have := keyed_len (hs.take i)
  rw [List.length_take] at this
  exact small1000 (by omega)
theorem take_t3 {ds : List PyData} {L : List Tri} {i : Nat} {u : Tri} (h : ds.take i = L.map t3D) (hd : ds[i]? = some (t3D u)) : ds.take (i + 1) = (L ++ [u]).map t3D := by
  rw [List.take_add_one, hd, h, List.map_append]; rfl
theorem take_L {ds : List PyData} {L : List Tri} {i : Nat} (h : ds.take i = L.map t3D) {M : List Tri} (e : ds = M.map t3D) : L = M.take i := by
  rw [e, ← List.map_take] at h
  exact (t3Ds_inj h).symm
theorem ahK_add (l : List Int) {r : Int} (h : r ∉ l) : putK (ahK l) (.inl r) (.bl true) = ahK (l ++ [r]) := by
  rw [putK_new]
  · unfold ahK; rw [List.map_append]; rfl
  · cases hv : valV (ahK l) (.inl r) with
    | none => rfl
    | some v => exact absurd (ahK_some hv) h
def spShow (K : PySem.W.Frag) : Sp := fun vs H Q _ => ∃ (a : Addr) (hs : HeadL) (nv x : V) (d : PyData) (b : Bool), vs = [.ref a, nv, x] ∧ SqL K H a (hrefs hs) ∧ AtH H hs ∧ hs.length ≤ 16 ∧ KeyOk hs ∧ Rise hs ∧ (nv = .non ∨ ∃ n, nv = .int n) ∧ DH H x d ∧ SeqAt.shaped d = true ∧ (∀ ds, d = .list ds → ds.length ≤ 40) ∧
  ShowB (keyed hs) nv d b ∧ ∀ H', Same H H' → Q (.bl b) H'
theorem ok_shows (T : Tops K mg) (f_is_number : Df P w K mg base 1 "is_number" ["thing"] spNumH) (f_is_triple : Df P w K mg base 2 "is_triple" ["thing"] spTrip) (f_shows_greater : Df P w K mg base 3 "shows_greater" ["keyed", "ahead", "entry"] spGreater) : Df P w K mg base 4 "shows_next" ["heads", "n", "thing"] (spShow K) := by
  refine T.t_shows_next.df sc_shows_next (fun vs H Q E h => ?_) (fun cdv f A outer s H vs Q E hr h => ?_)
  · obtain ⟨a, hs, nv, x, d, b, rfl, _⟩ := h
    rfl
  obtain ⟨a, hs, nv, x, d, b, rfl, hS, hA, hn, hk, hri, hnv, hd, _, hdl, hb, q⟩ := h
  refine ⟨_, (@pss_cons _ _ _ _ _ (@ps_if _ _ _ _ _ _ _ _ (@pt_not _ _ _ _ (@pt_val _ _ _ (@pe_callB _ _ _ _ _ _ _ _ _ (isiQ K) (by rfl) T.b.n_isinstance boot_isinstance (@pa_cons _ _ _ _ _ (@pv _ 2 _ _ (by rfl) (Or.inl rfl) (by decide) (by decide)) (@pa_cons _ _ _ _ _ (@pe_ty _ _ _ _ T.b.n_list boot_list (by rfl) (by decide) (by decide)) (@pa_nil _) (by rfl)) (by rfl)) (by decide) (by decide) (by rfl) (by rfl)) (by intro _; rfl))) (@pss_one _ _ _ (@ps_ret _ _ _ _ (@pe_bl _ _ _ _))) (@pss_nil _)) (@pss_cons _ _ _ _ _ (@ps_setKComp _ _ _ _ _ 3 _ _ _ _ _ _ _ _ _ _ _ _ _ _ sc_shows_next.nd rfl (Or.inl rfl) cs_4 rfl rfl rfl (@iL _ K _ _ _ (@pv _ 0 _ _ (by rfl) (Or.inl rfl) (by decide) (by decide)) (by rfl)) (fun _ _ _ _ => (@gT _ K _ _ _ 2 _ (@pgs_cons _ _ _ _ _ (@cg _ _ _ _ _ _ _ _ _ _ _ 6 cs_4 rfl (by decide +kernel) (by rfl)) (@pgs_cons _ _ _ _ _ (@cg _ _ _ _ _ _ _ _ _ _ _ 7 cs_4 rfl (by decide +kernel) (by rfl)) (@pgs_nil _) (by rfl)) (by rfl)) (by rfl) (by rfl) (by rfl) (by rfl))) (fun _ _ _ _ => (@pts_one _ _ _ (@pt_cmpR _ _ _ _ _ _ _ _ op_notN (@cw _ _ _ _ _ _ _ _ _ _ _ 7 cs_4 rfl (by decide +kernel) (by rfl) (by decide) (by decide)) (@pe_non _ _ _) (nomark _)))) (fun _ _ _ _ => (@cw _ _ _ _ _ _ _ _ _ _ _ 6 cs_4 rfl (by decide +kernel) (by rfl) (by decide) (by decide))) (fun _ _ _ _ => (@cw _ _ _ _ _ _ _ _ _ _ _ 7 cs_4 rfl (by decide +kernel) (by rfl) (by decide) (by decide))) (by rfl) (by intro _; rfl) (by first | exact .inl rfl | exact .inr rfl)) (@pss_cons _ _ _ _ _ (@ps_if _ _ _ _ _ _ _ _ (@pt_cmpR _ _ _ _ _ _ _ _ op_isN (@pv _ 1 _ _ (by rfl) (Or.inl rfl) (by decide) (by decide)) (@pe_non _ _ _) (nomark _)) (@pss_one _ _ _ (@ps_ret _ _ _ _ (@pe_and _ _ _ _ _ _ _ (@pe_cmpR _ _ _ _ _ _ _ _ op_eq (@pe_callB _ _ _ _ _ _ _ _ _ lenG (by rfl) T.b.n_len PySem.boot_len (@pa_cons _ _ _ _ _ (@pv _ 3 _ _ (by rfl) (Or.inl rfl) (by decide) (by decide)) (@pa_nil _) (by rfl)) (by decide) (by decide) (by rfl) (by rfl)) (@pe_int _ _ _ _) (nomark _)) (@pe_one _ _ _ _ _ (@pe_cmpR _ _ _ _ _ _ _ _ op_eq (@pe_callB _ _ _ _ _ _ _ _ _ (lenQ K) (by rfl) T.b.n_len PySem.boot_len (@pa_cons _ _ _ _ _ (@pv _ 2 _ _ (by rfl) (Or.inl rfl) (by decide) (by decide)) (@pa_nil _) (by rfl)) (by decide) (by decide) (by rfl) (by rfl)) (@pe_int _ _ _ _) (nomark _)))))) (@pss_nil _)) (@pss_cons _ _ _ _ _ (@ps_if _ _ _ _ _ _ _ _ (@PW.pt _ _ _ (@pw_or _ _ _ _ _ _ _ (@pt_not _ _ _ _ (@pt_val _ _ _ (@pe_df _ _ _ _ _ _ _ _ _ _ _ f_is_number hr (@pa_cons _ _ _ _ _ (@pv _ 1 _ _ (by rfl) (Or.inl rfl) (by decide) (by decide)) (@pa_nil _) (by rfl)) (by first | decide | exact Nat.le_refl _ | omega) (by rfl) (by decide) (by rfl) (by rfl)) (by intro _; rfl))) (@pw_or1 _ _ _ _ (@pt_cmpR _ _ _ _ _ _ _ _ (notInG hr) (@pv _ 1 _ _ (by rfl) (Or.inl rfl) (by decide) (by decide)) (@pv _ 3 _ _ (by rfl) (Or.inl rfl) (by decide) (by decide)) (by with_unfolding_all rfl))))) (@pss_one _ _ _ (@ps_ret _ _ _ _ (@pe_bl _ _ _ _))) (@pss_nil _)) (@pss_cons _ _ _ _ _ (@ps_set _ _ 4 _ _ _ _ sc_shows_next.nd rfl (Or.inl rfl) (@disp1 _ _ _ _ _ _ (@pv _ 1 _ _ (by rfl) (Or.inl rfl) (by decide) (by decide)) (@pe_bl _ _ _ _)) (by rfl) (by first | exact .inl rfl | exact .inr rfl)) (@pss_cons _ _ _ _ _ (@ps_for _ _ _ _ _ _ _ _ PassesOwn.never rfl (@iL _ K _ _ _ (@pv _ 2 _ _ (by rfl) (Or.inl rfl) (by decide) (by decide)) (by rfl)) (@pg_name _ _ 5 _ sc_shows_next.nd rfl (Or.inl rfl) (by first | exact .inl rfl | exact .inr rfl)) (@pss_cons _ _ _ _ _ (@ps_if _ _ _ _ _ _ _ _ (@PW.pt _ _ _ (@pw_or _ _ _ _ _ _ _ (@pt_not _ _ _ _ (@pt_val _ _ _ (@pe_df _ _ _ _ _ _ _ _ _ _ _ f_is_triple hr (@pa_cons _ _ _ _ _ (@pv _ 5 _ _ (by rfl) (Or.inl rfl) (by decide) (by decide)) (@pa_nil _) (by rfl)) (by first | decide | exact Nat.le_refl _ | omega) (by rfl) (by decide) (by rfl) (by rfl)) (by intro _; rfl))) (@pw_or1 _ _ _ _ (@pt_not _ _ _ _ (@pt_val _ _ _ (@pe_df _ _ _ _ _ _ _ _ _ _ _ f_shows_greater hr (@pa_cons _ _ _ _ _ (@pv _ 3 _ _ (by rfl) (Or.inl rfl) (by decide) (by decide)) (@pa_cons _ _ _ _ _ (@pv _ 4 _ _ (by rfl) (Or.inl rfl) (by decide) (by decide)) (@pa_cons _ _ _ _ _ (@pv _ 5 _ _ (by rfl) (Or.inl rfl) (by decide) (by decide)) (@pa_nil _) (by rfl)) (by rfl)) (by rfl)) (by first | decide | exact Nat.le_refl _ | omega) (by rfl) (by decide) (by rfl) (by rfl)) (by intro _; rfl)))))) (@pss_one _ _ _ (@ps_ret _ _ _ _ (@pe_bl _ _ _ _))) (@pss_nil _)) (@pss_one _ _ _ (@ps_asg _ _ _ _ _ _ (@pe_bl _ _ _ _) (@pg_sub _ _ _ _ _ _ _ (@pv _ 4 _ _ (by rfl) (Or.inl rfl) (by decide) (by decide)) (@pe_ix _ _ _ _ _ _ _ (ixT K) (@pv _ 5 _ _ (by rfl) (Or.inl rfl) (by decide) (by decide)) (@pe_int _ _ _ _) (fun _ _ => rfl)) (setG hr) (by intro _; rfl)) (by rfl) (by rfl) (by rfl)))) (by intro _; rfl)) (@pss_one _ _ _ (@ps_ret _ _ _ _ (@pe_cmpR _ _ _ _ _ _ _ _ op_eq (@pe_callB _ _ _ _ _ _ _ _ _ lenG (by rfl) T.b.n_len PySem.boot_len (@pa_cons _ _ _ _ _ (@pv _ 4 _ _ (by rfl) (Or.inl rfl) (by decide) (by decide)) (@pa_nil _) (by rfl)) (by decide) (by decide) (by rfl) (by rfl)) (@pe_callB _ _ _ _ _ _ _ _ _ lenG (by rfl) T.b.n_len PySem.boot_len (@pa_cons _ _ _ _ _ (@pv _ 3 _ _ (by rfl) (Or.inl rfl) (by decide) (by decide)) (@pa_nil _) (by rfl)) (by decide) (by decide) (by rfl) (by rfl)) (nomark _)))))))))), ?_⟩
  have hl1 := hd.kL K
  have hb' : b = true ↔ Shown (keyed hs) nv d := hb
  refine ⟨_, rfl, _, "list", _, _, rfl, hd.ty, hl1, _, rfl, ?_⟩
  cases hl : isLstD d with
  | false =>
    refine iteT ?_
    have : b = false := hb.no fun z => by rcases z with ⟨_, _, rfl⟩ | ⟨_, _, _, rfl, _⟩ <;> cases hl
    rw [this] at q
    exact q H (Same.refl _)
  | true =>
    obtain ⟨t0, xs, ds, rfl, rfl, ht0, hds⟩ := hd.lst_inv hl
    refine iteF ?_
    refine ⟨_, rfl, a, rfl, ⟨_, hS⟩, fun D hD => ?_⟩
    refine dict_lF (K := K) (a := a) (xs := hrefs hs) (fun i ys σ H2 => (∃ v1 v2 : Option V, σ = [some (.ref a), some nv, some (.ref t0), none, none, none, v1, v2]) ∧ ys = kvE (keyed (hs.take i)) ∧ i ≤ hs.length ∧ H2 D = some (.dK ys) ∧ Same H H2) ?_ (fun _ _ _ _ h => h.2.2.2.2.seq hS) ?_ ?_
    · exact ⟨⟨none, none, rfl⟩, rfl, Nat.zero_le _, upd_same, same_new hD _⟩
    · rintro i x ys σ H2 hx ⟨⟨v1, v2, rfl⟩, rfl, hi, hD2, s2⟩
      obtain ⟨h, hh, rfl⟩ := href_at hx
      have hil : i < hs.length := (List.getElem?_eq_some_iff.mp hh).1
      have hH := hA.mono s2 h (List.mem_of_getElem? hh)
      refine ⟨h.1, _, rfl, SqT.of hH, rfl, _, _, rfl, _, _, rfl, rfl, ?_⟩
      cases hz : h.2.2 with
      | none =>
        have kt := keyed_take hs i hh
        rw [hz, List.append_nil] at kt
        exact ⟨_, rfl, rfl, _, rfl, iteNS rfl ⟨⟨_, _, rfl⟩, by rw [kt], hil, hD2, s2⟩⟩
      | some z =>
        refine ⟨_, rfl, rfl, _, rfl, iteNN (by intro e; cases e) ⟨_, rfl, _, rfl, .inl h.2.1, rfl, hD2, kv_len hn i, ⟨_, _, rfl⟩, kv_put hri hh hz, hil, upd_same, fun b o hb => ?_⟩⟩
        rw [upd_ne (ne_of_none hb hD)]; exact s2 b o hb
    rintro ys σ H2 ⟨⟨v1, v2, rfl⟩, rfl, _, hD2, s2⟩
    rw [show (hrefs hs).length = hs.length from List.length_map _, List.take_of_length_le (Nat.le_refl _)] at hD2
    have hxl := hds.length
    have hdl' := hdl _ rfl
    have hnd : (rowsE (keyed hs)).Nodup := keyed_rows hs hri
    have hlen : ∀ u ∈ keyed hs, u.1.length ≤ 1000 := fun u hu => by have := (keyed_ok hk u hu).1; omega
    have ht2 := s2 _ _ ht0
    have hkl : (kvE (keyed hs)).length = (keyed hs).length := List.length_map _
    rcases hnv with rfl | ⟨n, rfl⟩
    · have fin : ∀ c : Bool, (c = true ↔ (keyed hs = [] ∧ ds = [])) → Q (.bl c) H2 := fun c hc => by
        have : b = c := by
          rw [Bool.eq_iff_iff, hb', hc]
          constructor
          · rintro (⟨_, h1, h2⟩ | ⟨_, _, h1, _⟩)
            · injection h2 with h2; exact ⟨h1, h2⟩
            · cases h1
          · rintro ⟨h1, h2⟩
            exact .inl ⟨rfl, h1, by rw [h2]⟩
        rw [← this]; exact q _ s2
      refine ⟨_, rfl, rfl, _, rfl, iteD rfl ?_⟩
      refine ⟨_, rfl, D, _, rfl, hD2, rfl, _, rfl, ?_⟩
      by_cases h0 : V.int ((kvE (keyed hs)).length : Int) = V.int 0
      · have h0' : keyed hs = [] := by injection h0 with h0; exact List.length_eq_zero_iff.mp (by omega)
        refine iteD h0 ⟨_, rfl, t0, _, rfl, .inl (SqL.of ht2), rfl, fin _ ⟨fun g => ?_, fun g => ?_⟩⟩
        · have := of_decide_eq_true g
          injection this with this
          exact ⟨h0', List.length_eq_zero_iff.mp (by omega)⟩
        · refine decide_eq_true ?_
          have : xs.length = 0 := by rw [hxl, g.2]; rfl
          rw [this]; rfl
      · refine iteDN h0 (fin _ ⟨fun g => (Bool.false_ne_true g).elim, fun g => absurd ?_ h0⟩)
        rw [hkl, g.1]; rfl
    · have no : ∀ H', Same H H' → ¬ (∃ L, ds = L.map t3D ∧ PapOk (keyed hs) n L) → Q (.bl false) H' := fun H' s' z => by
        have : b = false := hb.no fun y => by
          rcases y with ⟨h1, _⟩ | ⟨n', L, h1, h2, h3⟩
          · cases h1
          · injection h1 with h1
            subst h1
            injection h2 with h2
            exact z ⟨L, h2, h3⟩
        rw [← this]; exact q _ s'
      refine ⟨_, rfl, rfl, _, rfl, iteDN (by intro z; cases z) ?_⟩
      refine ⟨_, rfl, .int n, .int n, rfl, .int n, _, rfl, iteF ?_⟩
      cases hv : valV (kvE (keyed hs)) (.inl n) with
      | none => exact ⟨_, rfl, _, rfl, D, none, rfl, dget hD2 hv, _, rfl, iteT (no _ s2 fun ⟨L, _, hp, _⟩ => kvE_none hv hp)⟩
      | some v =>
        obtain ⟨zn, rfl, hzn⟩ := kvE_some hv
        have hnr : n ∈ rowsE (keyed hs) := List.mem_map_of_mem (f := (·.2)) hzn
        refine ⟨_, rfl, _, rfl, D, _, rfl, dget hD2 hv, _, rfl, iteF ?_⟩
        refine fun p hp => ⟨_, rfl, upd_same, [(.inl n, .bl true)], rfl, (by show 1 ≤ 15; decide), ?_⟩
        have s3 : Same H2 (upd (upd H2 p (.dK [])) p (.dK (mergeK [] [(.inl n, .bl true)]))) := fun b o hb => by rw [upd_ne (ne_of_none hb hp), upd_ne (ne_of_none hb hp)]; exact hb
        have hp3 : (upd (upd H2 p (.dK [])) p (.dK (mergeK [] [(.inl n, .bl true)]))) p = some (.dK (ahK [n])) := upd_same
        generalize upd (upd H2 p (.dK [])) p (.dK (mergeK [] [(.inl n, .bl true)])) = H3 at s3 hp3 ⊢
        refine ⟨_, rfl, t0, rfl, ⟨_, SqL.of (s3 _ _ ht2)⟩, ?_⟩
        refine for_list (K := K) (a := t0) (xs := xs) (fun i σ H4 => (∃ v5 : Option V, σ = [some (.ref a), some (.int n), some (.ref t0), some (.ref D), some (.ref p), v5]) ∧ (∃ L : List Tri, ds.take i = L.map t3D ∧ H4 p = some (.dK (ahK (n :: rowsL L))) ∧ ∀ j e, L[j]? = some e → OkAt (keyed hs) n (L.take j) e) ∧ i ≤ xs.length ∧ Same H2 H4) ⟨⟨none, rfl⟩, ⟨[], rfl, hp3, fun j e h => by simp at h⟩, Nat.zero_le _, s3⟩ (fun _ _ _ _ ⟨_, _, _, s4⟩ => SqL.of (s4 _ _ ht2)) ?_ ?_
        · rintro i x σ H4 hx ⟨⟨v5, rfl⟩, ⟨L, hL, hp4, hok⟩, hi, s4⟩
          obtain ⟨d', hd', hdx⟩ := hds.get hx
          have hil : i < xs.length := (List.getElem?_eq_some_iff.mp hx).1
          have sH4 := s2.trans s4
          have hLl : L.length = i := by
            have := congrArg List.length hL
            rw [List.length_take, List.length_map] at this
            omega
          refine ⟨_, rfl, x, d', rfl, hdx.mono sH4, _, rfl, ?_⟩
          cases htr : isTripD d' with
          | false =>
            refine iteT (iteT (no _ sH4 fun ⟨M, hM, _⟩ => ?_))
            rw [hM, List.getElem?_map] at hd'
            cases hm : M[i]? with
            | none => rw [hm] at hd'; cases hd'
            | some u => rw [hm] at hd'; cases hd'; cases htr
          | true =>
            obtain ⟨t, u, rfl, rfl, hu⟩ := trip_inv hdx htr
            have hu4 := sH4 _ _ hu
            have hsub : ∀ r ∈ n :: rowsL L, r ∈ rowsE (keyed hs) := fun r hr => by
              rcases List.mem_cons.mp hr with rfl | hr
              · exact hnr
              · obtain ⟨e, he, rfl⟩ := List.mem_map.mp hr
                obtain ⟨j, hj⟩ := List.mem_iff_getElem?.mp he
                exact (hok j e hj).1
            obtain ⟨bb, hbb⟩ : ∃ bb : Bool, bb = true ↔ OkAt (keyed hs) n L u := by
              by_cases h : OkAt (keyed hs) n L u
              · exact ⟨true, fun _ => h, fun _ => rfl⟩
              · exact ⟨false, fun z => (Bool.false_ne_true z).elim, fun z => absurd z h⟩
            refine iteF ⟨_, rfl, _, rfl, _, rfl, D, p, t, keyed hs, n :: rowsL L, u, bb, rfl, s4 _ _ hD2, hp4, hu4, hnd, hlen, hsub, hbb, fun H5 s5 => ⟨_, rfl, ?_⟩⟩
            cases bb with
            | false =>
              refine iteT (no _ (sH4.trans s5) fun ⟨M, hM, hpm⟩ => ?_)
              have e1 := take_L hL hM
              rw [hM, List.getElem?_map] at hd'
              cases hm : M[i]? with
              | none => rw [hm] at hd'; cases hd'
              | some u' =>
                rw [hm] at hd'
                have e2 := t3D_inj (Option.some.inj hd')
                subst e2
                have := hpm.2.1 i u' hm
                rw [← e1] at this
                exact absurd (hbb.mpr this) Bool.false_ne_true
            | true =>
              have hok' := hbb.mp rfl
              refine iteF ⟨_, rfl, _, rfl, t, _, _, _, rfl, rfl, SqT.of (s5 _ _ hu4), rfl, p, _, rfl, DPut.k (k := .inl u.1) (s5 _ _ hp4) ?_, ⟨_, rfl⟩, ⟨L ++ [u], take_t3 hL hd', ?_, fun j e hj => ?_⟩, hil, fun b o hb => ?_⟩
              · unfold ahK rowsL
                rw [List.length_map, List.length_cons, List.length_map]
                exact small1000 (by omega)
              · rw [upd_same, ahK_add _ hok'.2.1]
                unfold rowsL
                rw [List.map_append]; rfl
              · by_cases hj' : j < L.length
                · rw [List.getElem?_append_left hj'] at hj
                  rw [List.take_append_of_le_length (by omega)]
                  exact hok j e hj
                · rw [List.getElem?_append_right (by omega)] at hj
                  have : j = L.length := by
                    have := (List.getElem?_eq_some_iff.mp hj).1
                    simp at this; omega
                  subst this
                  simp at hj
                  subst hj
                  rw [List.take_left]
                  exact hok'
              · rw [upd_ne (ne_of_none hb hp)]; exact s5 _ _ (s4 b o hb)
        · rintro σ H4 ⟨⟨v5, rfl⟩, ⟨L, hL, hp4, hok⟩, _, s4⟩
          rw [List.take_of_length_le (by omega)] at hL
          have hal : (ahK (n :: rowsL L)).length = L.length + 1 := by unfold ahK rowsL; rw [List.length_map, List.length_cons, List.length_map]
          refine ⟨_, rfl, p, _, rfl, hp4, _, rfl, D, _, rfl, s4 _ _ hD2, rfl, ?_⟩
          have : b = decide (V.int ((ahK (n :: rowsL L)).length : Int) = V.int ((kvE (keyed hs)).length : Int)) := by
            rw [Bool.eq_iff_iff, hb', decide_eq_true_iff]
            constructor
            · rintro (⟨h1, _⟩ | ⟨n', M, h1, h2, h3⟩)
              · cases h1
              · injection h1 with h1
                subst h1
                injection h2 with h2
                rw [hL] at h2
                rw [← t3Ds_inj h2] at h3
                rw [hal, hkl, h3.2.2]
            · intro g
              injection g with g
              exact .inr ⟨n, L, rfl, by rw [hL], hnr, hok, by omega⟩
          rw [← this]
          exact q _ (s2.trans s4)
theorem take_lcp : ∀ (x y : List Nat) (n : Nat), n ≤ lcp x y → x.take n = y.take n
  | _, _, 0, _ => rfl
  | [], _, n + 1, h => by rw [lcp_nil'] at h; omega
  | _ :: _, [], n + 1, h => by rw [lcp_nil] at h; omega
  | a :: r, b :: s, n + 1, h => by
    unfold lcp at h
    by_cases e : a = b
    · rw [if_pos e] at h
      rw [List.take_succ_cons, List.take_succ_cons, e, take_lcp r s n (by omega)]
    · rw [if_neg e] at h; omega
theorem lcp_take : ∀ (x y : List Nat) (n : Nat), n ≤ x.length → n ≤ y.length → x.take n = y.take n → n ≤ lcp x y
  | _, _, 0, _, _, _ => Nat.zero_le _
  | [], _, n + 1, h, _, _ => by simp at h
  | _ :: _, [], n + 1, _, h, _ => by simp at h
  | a :: r, b :: s, n + 1, h1, h2, e => by
    rw [List.take_succ_cons, List.take_succ_cons] at e
    injection e with e1 e2
    unfold lcp
    rw [if_pos e1]
    have := lcp_take r s n (by simpa using h1) (by simpa using h2) e2
    omega
theorem str_eq {x y : Str} (h : cds x = cds y) : x = y := by
  obtain ⟨x⟩ := x
  obtain ⟨y⟩ := y
  have : x = y := Array.ext' h
  rw [this]
def spLost : Sp := fun vs H Q _ => ∃ (x y : Str) (far : Nat) (g b : Bool), vs = [.str x, .str y, .int far, .bl g] ∧ x.length ≤ 1000 ∧ y.length ≤ 1000 ∧ (b = true ↔ (far = lcp (cds x) (cds y) ∧ (0 < ordC (cds x) (cds y) ∨ (ordC (cds x) (cds y) = 0 ∧ g = true)))) ∧ Q (.bl b) H
theorem ok_lost (T : Tops K mg) : Df P w K mg base 1 "_law_lost" ["_law_key_here", "_law_winner_key", "_law_far", "_law_is_behind"] spLost := by
  refine T.t_l_lost.df sc_l_lost (fun vs H Q E h => ?_) (fun cdv f A outer s H vs Q E hr h => ?_)
  · obtain ⟨x, y, far, g, b, rfl, _⟩ := h
    rfl
  obtain ⟨x, y, far, g, b, rfl, hx, hy, hb, q⟩ := h
  refine ⟨_, (@pss_cons _ _ _ _ _ (@ps_if _ _ _ _ _ _ _ _ (@PW.pt _ _ _ (@pw_or _ _ _ _ _ _ _ (@pt_cmpR _ _ _ _ _ _ _ _ op_gt (@pv _ 2 _ _ (by rfl) (Or.inl rfl) (by decide) (by decide)) (@pe_callB _ _ _ _ _ _ _ _ _ call_len_str (by rfl) T.b.n_len PySem.boot_len (@pa_cons _ _ _ _ _ (@pv _ 0 _ _ (by rfl) (Or.inl rfl) (by decide) (by decide)) (@pa_nil _) (by rfl)) (by decide) (by decide) (by rfl) (by rfl)) (nomark _)) (@pw_or _ _ _ _ _ _ _ (@pt_cmpR _ _ _ _ _ _ _ _ op_gt (@pv _ 2 _ _ (by rfl) (Or.inl rfl) (by decide) (by decide)) (@pe_callB _ _ _ _ _ _ _ _ _ call_len_str (by rfl) T.b.n_len PySem.boot_len (@pa_cons _ _ _ _ _ (@pv _ 1 _ _ (by rfl) (Or.inl rfl) (by decide) (by decide)) (@pa_nil _) (by rfl)) (by decide) (by decide) (by rfl) (by rfl)) (nomark _)) (@pw_or1 _ _ _ _ (@pt_cmpR _ _ _ _ _ _ _ _ op_ne (@pe_slice _ _ _ _ _ _ _ _ _ _ sl_str (@pv _ 0 _ _ (by rfl) (Or.inl rfl) (by decide) (by decide)) (@po_none _) (@po_some _ _ _ (@pv _ 2 _ _ (by rfl) (Or.inl rfl) (by decide) (by decide)))) (@pe_slice _ _ _ _ _ _ _ _ _ _ sl_str (@pv _ 1 _ _ (by rfl) (Or.inl rfl) (by decide) (by decide)) (@po_none _) (@po_some _ _ _ (@pv _ 2 _ _ (by rfl) (Or.inl rfl) (by decide) (by decide)))) (nomark _)))))) (@pss_one _ _ _ (@ps_ret _ _ _ _ (@pe_bl _ _ _ _))) (@pss_nil _)) (@pss_cons _ _ _ _ _ (@ps_if _ _ _ _ _ _ _ _ (@pt_cmpR _ _ _ _ _ _ _ _ op_eq (@pv _ 2 _ _ (by rfl) (Or.inl rfl) (by decide) (by decide)) (@pe_callB _ _ _ _ _ _ _ _ _ call_len_str (by rfl) T.b.n_len PySem.boot_len (@pa_cons _ _ _ _ _ (@pv _ 1 _ _ (by rfl) (Or.inl rfl) (by decide) (by decide)) (@pa_nil _) (by rfl)) (by decide) (by decide) (by rfl) (by rfl)) (nomark _)) (@pss_one _ _ _ (@ps_ret _ _ _ _ (@pe_or _ _ _ _ _ _ _ (@pe_cmpR _ _ _ _ _ _ _ _ op_lt (@pv _ 2 _ _ (by rfl) (Or.inl rfl) (by decide) (by decide)) (@pe_callB _ _ _ _ _ _ _ _ _ call_len_str (by rfl) T.b.n_len PySem.boot_len (@pa_cons _ _ _ _ _ (@pv _ 0 _ _ (by rfl) (Or.inl rfl) (by decide) (by decide)) (@pa_nil _) (by rfl)) (by decide) (by decide) (by rfl) (by rfl)) (nomark _)) (@pe_one _ _ _ _ _ (@pv _ 3 _ _ (by rfl) (Or.inl rfl) (by decide) (by decide)))))) (@pss_nil _)) (@pss_one _ _ _ (@ps_ret _ _ _ _ (@pe_and _ _ _ _ _ _ _ (@pe_cmpR _ _ _ _ _ _ _ _ op_lt (@pv _ 2 _ _ (by rfl) (Or.inl rfl) (by decide) (by decide)) (@pe_callB _ _ _ _ _ _ _ _ _ call_len_str (by rfl) T.b.n_len PySem.boot_len (@pa_cons _ _ _ _ _ (@pv _ 0 _ _ (by rfl) (Or.inl rfl) (by decide) (by decide)) (@pa_nil _) (by rfl)) (by decide) (by decide) (by rfl) (by rfl)) (nomark _)) (@pe_one _ _ _ _ _ (@pe_cmpR _ _ _ _ _ _ _ _ op_lt_str (@pe_ix _ _ _ _ _ _ _ ix_str (@pv _ 1 _ _ (by rfl) (Or.inl rfl) (by decide) (by decide)) (@pv _ 2 _ _ (by rfl) (Or.inl rfl) (by decide) (by decide)) (fun _ _ => rfl)) (@pe_ix _ _ _ _ _ _ _ ix_str (@pv _ 0 _ _ (by rfl) (Or.inl rfl) (by decide) (by decide)) (@pv _ 2 _ _ (by rfl) (Or.inl rfl) (by decide) (by decide)) (fun _ _ => rfl)) (nomark _)))))))), ?_⟩
  have ll := lcp_le (cds x) (cds y)
  have lx := cds_len x
  have ly := cds_len y
  obtain ⟨o1, o2, o3, o4⟩ := ordC_at (cds x) (cds y)
  have fin : ∀ c : Bool, (c = true ↔ (far = lcp (cds x) (cds y) ∧ (0 < ordC (cds x) (cds y) ∨ (ordC (cds x) (cds y) = 0 ∧ g = true)))) → Q (.bl c) H := fun c hc => by
    have : b = c := by rw [Bool.eq_iff_iff, hb, hc]
    rw [← this]; exact q
  have no : ¬ (far = lcp (cds x) (cds y) ∧ (0 < ordC (cds x) (cds y) ∨ (ordC (cds x) (cds y) = 0 ∧ g = true))) → Q (.bl false) H := fun h => fin false ⟨fun z => (Bool.false_ne_true z).elim, fun z => absurd z h⟩
  refine ⟨_, rfl, _, rfl, x, rfl, small hx, _, _, rfl, rfl, _, rfl, ?_⟩
  by_cases d1 : (x.length : Int) < (far : Int)
  · exact iteD d1 (iteT (no fun z => by omega))
  refine iteDN d1 ⟨_, rfl, _, rfl, y, rfl, small hy, _, _, rfl, rfl, _, rfl, ?_⟩
  by_cases d2 : (y.length : Int) < (far : Int)
  · exact iteD d2 (iteT (no fun z => by omega))
  refine iteDN d2 ⟨_, rfl, _, rfl, _, rfl, x, rfl, small hx, _, rfl, _, rfl, _, rfl, y, rfl, small hy, rfl, _, rfl, ?_⟩
  by_cases d3 : V.str (Txt.slice x none (some (far : Int))) = V.str (Txt.slice y none (some (far : Int)))
  · have e3 : (cds x).take far = (cds y).take far := by
      injection d3 with d3
      have := congrArg (fun z : Str => z.cps.toList) d3
      simp only [slice_to] at this
      exact this
    have hle : far ≤ lcp (cds x) (cds y) := lcp_take _ _ _ (by omega) (by omega) e3
    refine iteNS d3 ?_
    refine ⟨_, rfl, _, rfl, y, rfl, small hy, rfl, _, rfl, ?_⟩
    by_cases d4 : V.int (far : Int) = V.int (y.length : Int)
    · have e4 : far = y.length := by injection d4 with d4; omega
      have el : lcp (cds x) (cds y) = far := by omega
      refine iteD d4 ⟨_, rfl, _, rfl, x, rfl, small hx, _, _, rfl, rfl, _, rfl, ?_⟩
      by_cases d5 : (far : Int) < (x.length : Int)
      · have := o3 (by omega) (by omega)
        exact iteD d5 (fin _ ⟨fun _ => ⟨el.symm, .inl (by omega)⟩, fun _ => rfl⟩)
      · have := o1 (by omega) (by omega)
        refine iteDN d5 ⟨_, rfl, fin _ ⟨fun z => ⟨el.symm, .inr ⟨this, z⟩⟩, fun z => ?_⟩⟩
        rcases z.2 with z | z
        · omega
        · exact z.2
    · have e4 : far < y.length := by
        have : far ≠ y.length := fun e => d4 (by rw [e])
        omega
      refine iteDN d4 ⟨_, rfl, _, rfl, x, rfl, small hx, _, _, rfl, rfl, _, rfl, ?_⟩
      by_cases d5 : (far : Int) < (x.length : Int)
      · obtain ⟨a, ha, ha'⟩ := at_code (z := x) (k := far) (by omega) d5
        obtain ⟨c, hc, hc'⟩ := at_code (z := y) (k := far) (by omega) (by omega)
        rw [Int.toNat_natCast] at ha hc
        refine iteD d5 ⟨_, rfl, _, rfl, y, _, c, rfl, rfl, small hy, hc', _, rfl, _, rfl, x, _, a, rfl, rfl, small hx, ha', _, _, rfl, rfl, ?_⟩
        rw [one_lt]
        refine fin _ ⟨fun z => ?_, fun z => ?_⟩
        · have z := of_decide_eq_true z
          have el := lcp_end (cds x) (cds y) far hle (.inr (.inr ⟨a, c, ha, hc, by omega⟩))
          rw [← el] at ha hc
          have := o4 a c ha hc
          rw [if_neg (by omega)] at this
          exact ⟨el.symm, .inl (by omega)⟩
        · refine decide_eq_true ?_
          have el := z.1
          rw [el] at ha hc
          have := o4 a c ha hc
          by_cases hac : a < c
          · rw [if_pos hac] at this
            rcases z.2 with z | z <;> omega
          · by_cases eac : a = c
            · rw [eac] at ha
              have := lcp_on _ _ _ (Nat.le_refl _) c ha hc
              omega
            · omega
      · have el : lcp (cds x) (cds y) = far := by omega
        have := o2 (by omega) (by omega)
        refine iteDN d5 (fin _ ⟨fun z => (Bool.false_ne_true z).elim, fun z => ?_⟩)
        rcases z.2 with z | z <;> omega
  · refine iteNN d3 (no fun z => d3 ?_)
    have e3 : (cds x).take far = (cds y).take far := take_lcp _ _ _ (by omega)
    have : Txt.slice x none (some (far : Int)) = Txt.slice y none (some (far : Int)) := str_eq (by show (Txt.slice x none (some (far : Int))).cps.toList = (Txt.slice y none (some (far : Int))).cps.toList; rw [slice_to, slice_to]; exact e3)
    rw [this]
theorem ok_lnumH (T : Tops K mg) : Df P w K mg base 1 "_law_is_number" ["_law_thing"] spNumH := by
  refine T.t_l_is_number.df sc_l_is_number (fun vs H Q E h => ?_) (fun cdv f A outer s H vs Q E hr h => ?_)
  · obtain ⟨x, d, rfl, _⟩ := h
    rfl
  obtain ⟨x, d, rfl, hd, q⟩ := h
  refine ⟨_, (@pss_one _ _ _ (@ps_ret _ _ _ _ (@pe_and _ _ _ _ _ _ _ (@pe_callB _ _ _ _ _ _ _ _ _ (isiQ K) (by rfl) T.b.n_isinstance boot_isinstance (@pa_cons _ _ _ _ _ (@pv _ 0 _ _ (by rfl) (Or.inl rfl) (by decide) (by decide)) (@pa_cons _ _ _ _ _ (@pe_ty _ _ _ _ T.b.n_int boot_int (by rfl) (by decide) (by decide)) (@pa_nil _) (by rfl)) (by rfl)) (by decide) (by decide) (by rfl) (by rfl)) (@pe_one _ _ _ _ _ (@pe_not _ _ _ _ (@pe_callB _ _ _ _ _ _ _ _ _ (isiQ K) (by rfl) T.b.n_isinstance boot_isinstance (@pa_cons _ _ _ _ _ (@pv _ 0 _ _ (by rfl) (Or.inl rfl) (by decide) (by decide)) (@pa_cons _ _ _ _ _ (@pe_ty _ _ _ _ T.b.n_bool boot_bool (by rfl) (by decide) (by decide)) (@pa_nil _) (by rfl)) (by rfl)) (by decide) (by decide) (by rfl) (by rfl))))))), ?_⟩
  have h1 := hd.kI K
  have h2 := hd.kB K
  have ht := hd.ty (K := K)
  cases hd with
  | int i => exact ⟨_, rfl, _, "int", _, _, rfl, ht, h1, _, rfl, iteT ⟨_, rfl, _, "bool", _, _, rfl, ht, h2, _, rfl, q⟩⟩
  | bl b => exact ⟨_, rfl, _, "int", _, _, rfl, ht, h1, _, rfl, iteT ⟨_, rfl, _, "bool", _, _, rfl, ht, h2, _, rfl, q⟩⟩
  | non => exact ⟨_, rfl, _, "int", _, _, rfl, ht, h1, _, rfl, iteF q⟩
  | str z => exact ⟨_, rfl, _, "int", _, _, rfl, ht, h1, _, rfl, iteF q⟩
  | lst _ _ => exact ⟨_, rfl, _, "int", _, _, rfl, ht, h1, _, rfl, iteF q⟩
  | tup _ _ => exact ⟨_, rfl, _, "int", _, _, rfl, ht, h1, _, rfl, iteF q⟩
theorem comp_tF {K : PySem.W.Frag} {a : Addr} {xs : List V} {k : Nat} {D : Addr} {σ : L2.St} {H1 : Hp} {g : TG} {tc : TT} {te : TE} {Q : VK} (Pv : Nat → List V → L2.St → Hp → Prop) (h0 : Pv 0 [] (σ ++ List.replicate k none) (upd H1 D (.lst [])))
    (hl : ∀ i ys σ H, Pv i ys σ H → SqT K H a xs)
    (hs : ∀ i x ys σ H, xs[i]? = some x → Pv i ys σ H → g x σ H fun σ4 H4 => tc σ4 H4 fun b H5 => if b = true then te σ4 H5 fun y H6 => H6 D = some (.lst ys) ∧ ys.length < sizeLine ∧ Pv (i + 1) (ys ++ [y]) σ4 (upd H6 D (.lst (ys ++ [y]))) else Pv (i + 1) ys σ4 H5)
    (hd : ∀ ys σ H, Pv xs.length ys σ H → Q (.ref D) H) : CompGo (Itt K a) D k σ H1 g tc te Q := by
  refine ⟨fun i m ys σ H => m = xs.length - i ∧ i ≤ xs.length ∧ Pv i ys σ H, ⟨xs.length, by simp, Nat.zero_le _, h0⟩, ?_⟩
  rintro i m ys σ H ⟨rfl, hi, p⟩
  have q1 := hl i ys σ H p
  by_cases hlt : i < xs.length
  · refine .inr ⟨⟨xs, xs[i], q1, List.getElem?_eq_getElem hlt⟩, Pv (i + 1), fun ys' σ' H' p' => ⟨xs.length - (i + 1), by omega, rfl, hlt, p'⟩, fun x H' y => ?_⟩
    obtain ⟨rfl, e⟩ := y
    exact hs i x ys σ _ (e xs q1) p
  · have e : i = xs.length := by omega
    exact .inl ⟨⟨xs, q1, by omega⟩, hd ys σ H (e ▸ p)⟩
def spEntry : Sp := fun vs H Q _ => ∃ (x : V) (d : PyData), vs = [x] ∧ DH H x d ∧ ∀ H', Same H H' → Q (.bl (isTripD d)) H'
theorem trip_all {ds : List PyData} (h : ds.length = 3) : isTripD (.tuple ds) = (ds.map isIntD).all id := by
  cases ds with
  | nil => simp at h
  | cons x1 r => cases r with
    | nil => simp at h
    | cons x2 r => cases r with
      | nil => simp at h
      | cons x3 r => cases r with
        | nil => simp [isTripD, Bool.and_assoc]
        | cons _ _ => simp at h
theorem trip_no {ds : List PyData} (h : ds.length ≠ 3) : isTripD (.tuple ds) = false := by
  cases ds with
  | nil => rfl
  | cons x1 r => cases r with
    | nil => rfl
    | cons x2 r => cases r with
      | nil => rfl
      | cons x3 r => cases r with
        | nil => exact absurd rfl h
        | cons _ _ => rfl
theorem ok_lentry (T : Tops K mg) (f_l_is_number : Df P w K mg base 1 "_law_is_number" ["_law_thing"] spNumH) : Df P w K mg base 2 "_law_is_entry" ["_law_thing"] spEntry := by
  refine T.t_l_is_entry.df sc_l_is_entry (fun vs H Q E h => ?_) (fun cdv f A outer s H vs Q E hr h => ?_)
  · obtain ⟨x, d, rfl, _⟩ := h
    rfl
  obtain ⟨x, d, rfl, hd, q⟩ := h
  refine ⟨_, (@pss_one _ _ _ (@ps_ret _ _ _ _ (@pe_and _ _ _ _ _ _ _ (@pe_callB _ _ _ _ _ _ _ _ _ (isiQ K) (by rfl) T.b.n_isinstance boot_isinstance (@pa_cons _ _ _ _ _ (@pv _ 0 _ _ (by rfl) (Or.inl rfl) (by decide) (by decide)) (@pa_cons _ _ _ _ _ (@pe_ty _ _ _ _ T.b.n_tuple boot_tuple (by rfl) (by decide) (by decide)) (@pa_nil _) (by rfl)) (by rfl)) (by decide) (by decide) (by rfl) (by rfl)) (@pe_and _ _ _ _ _ _ _ (@pe_cmpR _ _ _ _ _ _ _ _ op_eq (@pe_callB _ _ _ _ _ _ _ _ _ (lenQ K) (by rfl) T.b.n_len PySem.boot_len (@pa_cons _ _ _ _ _ (@pv _ 0 _ _ (by rfl) (Or.inl rfl) (by decide) (by decide)) (@pa_nil _) (by rfl)) (by decide) (by decide) (by rfl) (by rfl)) (@pe_int _ _ _ _) (nomark _)) (@pe_one _ _ _ _ _ (@pe_callB _ _ _ _ _ _ _ _ _ (allQ K) (by rfl) T.b.n_all boot_all (@pa_cons _ _ _ _ _ (@pe_comp _ _ _ _ _ _ _ _ _ _ _ _ _ _ cs_5 rfl rfl rfl (@iT _ K _ _ _ (@pv _ 0 _ _ (by rfl) (Or.inl rfl) (by decide) (by decide)) (by rfl)) (fun _ _ _ _ => (@cg _ _ _ _ _ _ _ _ _ _ _ 1 cs_5 rfl (by decide +kernel) (by rfl))) (fun _ _ _ _ => (@pts_nil _)) (fun _ _ _ _ => (@pe_df _ _ _ _ _ _ _ _ _ _ _ f_l_is_number hr (@pa_cons _ _ _ _ _ (@cw _ _ _ _ _ _ _ _ _ _ _ 1 cs_5 rfl (by decide +kernel) (by rfl) (by decide) (by decide)) (@pa_nil _) (by rfl)) (by first | decide | exact Nat.le_refl _ | omega) (comp_glob cs_5 rfl (by decide +kernel)) (by decide) (by rfl) (by rfl))) (by intro _; rfl)) (@pa_nil _) (by rfl)) (by decide) (by decide) (by rfl) (by rfl))))))), ?_⟩
  have h1 := hd.kT K
  have ht := hd.ty (K := K)
  cases hd with
  | @tup a xs ds hH hs =>
    have hl := hs.length
    refine ⟨_, rfl, _, "tuple", _, _, rfl, ht, h1, _, rfl, iteT ?_⟩
    refine ⟨_, rfl, a, _, rfl, .inr (SqT.of hH), rfl, _, rfl, ?_⟩
    by_cases h3 : xs.length = 3
    · refine iteD (by rw [h3]; rfl) ?_
      refine ⟨_, rfl, a, rfl, ⟨_, SqT.of hH⟩, fun B hB => ?_⟩
      refine comp_tF (K := K) (a := a) (xs := xs) (fun i zs σ H2 => (∃ v1 : Option V, σ = [some (.ref a), v1]) ∧ zs = ((ds.map isIntD).take i).map V.bl ∧ i ≤ xs.length ∧ H2 B = some (.lst zs) ∧ Same H H2) ?_ (fun _ _ _ _ h => SqT.of (h.2.2.2.2 _ _ hH)) ?_ ?_
      · exact ⟨⟨none, rfl⟩, rfl, Nat.zero_le _, upd_same, same_new hB _⟩
      · rintro i x zs σ H2 hx ⟨⟨v1, rfl⟩, rfl, hi, hB2, s2⟩
        obtain ⟨d', hd', hdx⟩ := hs.get hx
        have hil : i < xs.length := (List.getElem?_eq_some_iff.mp hx).1
        refine ⟨_, rfl, x, d', rfl, hdx.mono s2, hB2, (by rw [List.length_map, List.length_take]; exact small1000 (by omega)), ⟨_, rfl⟩, ?_, hil, upd_same, fun b o hb => ?_⟩
        · rw [List.take_add_one, List.map_append, List.getElem?_map, hd']; rfl
        · rw [upd_ne (ne_of_none hb hB)]; exact s2 b o hb
      · rintro zs σ H2 ⟨⟨v1, rfl⟩, rfl, _, hB2, s2⟩
        rw [List.take_of_length_le (by rw [List.length_map]; omega)] at hB2
        have e : isTripD (.tuple ds) = (ds.map isIntD).all id := trip_all (by omega)
        rw [e] at q
        exact ⟨B, _, rfl, SqL.of hB2, q _ s2⟩
    · refine iteDN (fun z => h3 (by injection z with z; omega)) ?_
      have : isTripD (.tuple ds) = false := trip_no (by omega)
      rw [this] at q
      exact q _ (Same.refl _)
  | int i => exact ⟨_, rfl, _, "tuple", _, _, rfl, ht, h1, _, rfl, iteF (q _ (Same.refl _))⟩
  | bl b => exact ⟨_, rfl, _, "tuple", _, _, rfl, ht, h1, _, rfl, iteF (q _ (Same.refl _))⟩
  | non => exact ⟨_, rfl, _, "tuple", _, _, rfl, ht, h1, _, rfl, iteF (q _ (Same.refl _))⟩
  | str z => exact ⟨_, rfl, _, "tuple", _, _, rfl, ht, h1, _, rfl, iteF (q _ (Same.refl _))⟩
  | lst _ _ => exact ⟨_, rfl, _, "tuple", _, _, rfl, ht, h1, _, rfl, iteF (q _ (Same.refl _))⟩
theorem inV_int (r : Int) : ∀ l : List Int, inV (.int r) (l.map V.int) = decide (r ∈ l)
  | [] => by simp [inV]
  | x :: l => by
    have ih := inV_int r l
    unfold inV at ih ⊢
    rw [List.map_cons, List.any_cons, ih]
    by_cases h : x = r
    · subst h; simp [eqV]
    · have h' : r ≠ x := fun e => h e.symm
      have : eqV (.int x) (.int r) = false := by simpa [eqV] using h
      rw [this]; simp [h']
theorem flat_ints : ∀ l : List Int, (l.map V.int).all flatV = true
  | [] => rfl
  | x :: l => by rw [List.map_cons, List.all_cons, flat_ints l]; rfl
theorem trips_of : ∀ {ds : List PyData}, (∀ d ∈ ds, isTripD d = true) → ∀ {H : Hp} {xs : List V}, DHs H xs ds → ∃ (ts : List Addr) (L : List Tri), xs = ts.map V.ref ∧ ds = L.map t3D ∧ ts.length = L.length ∧ ∀ (i : Nat) (t : Addr) (u : Tri), ts[i]? = some t → L[i]? = some u → H t = some (.tup (tV u))
  | [], _, _, _, .nil => ⟨[], [], rfl, rfl, rfl, fun i t u h _ => by simp at h⟩
  | d :: ds, hd, H, _, .cons h hs => by
    obtain ⟨ts, L, e1, e2, e3, h4⟩ := trips_of (fun x hx => hd x (List.mem_cons_of_mem _ hx)) hs
    obtain ⟨t, u, rfl, rfl, ht⟩ := trip_inv h (hd _ (by simp))
    refine ⟨t :: ts, u :: L, by rw [e1]; rfl, by rw [e2]; rfl, by simp [e3], fun i t' u' h1 h2 => ?_⟩
    cases i with
    | zero =>
      simp only [List.getElem?_cons_zero, Option.some.injEq] at h1 h2
      subst h1; subst h2
      exact ht
    | succ i => exact h4 i t' u' (by simpa using h1) (by simpa using h2)
theorem lay_t3 : ∀ L : List Tri, PyData.canLayAll0 (L.map t3D) = true ∧ PyData.depthAll (L.map t3D) ≤ 1
  | [] => ⟨rfl, Nat.zero_le _⟩
  | e :: r => by
    obtain ⟨a, b⟩ := lay_t3 r
    have hd : (t3D e).canLay0 = true ∧ (t3D e).depth = 1 := ⟨by simp [t3D, PyData.canLay0, PyData.canLayAll0], by simp [t3D, PyData.depth, PyData.depthAll]⟩
    refine ⟨by simp [PyData.canLayAll0, hd.1, a], ?_⟩
    show max (t3D e).depth (PyData.depthAll (r.map t3D)) ≤ 1
    omega
theorem shaped_t3 (L : List Tri) : SeqAt.shaped (.list (L.map t3D)) = true := by
  obtain ⟨a, b⟩ := lay_t3 L
  simp [SeqAt.shaped, PyData.canLay0, PyData.depth, a]
  omega
/-- the rows without n -/
def lessN (E : KE) (n : Int) : List Int := (rowsE E).filter (fun r => decide (r ≠ n))
theorem papOk_perm {E : KE} (hn : (rowsE E).Nodup) {n : Int} {L : List Tri} (h : PapOk E n L) : (rowsL L).Perm (lessN E n) := by
  have nd : (rowsL L).Nodup := by
    unfold rowsL
    rw [List.Nodup, List.pairwise_iff_getElem]
    intro i j hi hj hij e
    rw [List.length_map] at hi hj
    rw [List.getElem_map, List.getElem_map] at e
    have := (h.2.1 j L[j] (List.getElem?_eq_getElem hj)).2.1
    refine this (List.mem_cons_of_mem _ ?_)
    rw [← e]
    unfold rowsL
    exact List.mem_map_of_mem (f := fun e : Tri => e.1) (List.mem_iff_getElem?.mpr ⟨i, by rw [List.getElem?_take, if_pos hij]; exact List.getElem?_eq_getElem hi⟩)
  have hnl : (lessN E n).length + 1 = (rowsE E).length := by
    have h1 := h.1
    unfold lessN
    generalize rowsE E = l at hn h1
    clear h
    induction l with
    | nil => cases h1
    | cons x r ih =>
      obtain ⟨n1, n2⟩ := List.nodup_cons.mp hn
      rcases List.mem_cons.mp h1 with rfl | h1
      · rw [List.filter_cons_of_neg (by simp)]
        have : r.filter (fun x => decide (x ≠ n)) = r := List.filter_eq_self.mpr fun a ha => by
          have : a ≠ n := fun e => n1 (e ▸ ha)
          simpa using this
        rw [this]; rfl
      · have : x ≠ n := fun e => n1 (e ▸ h1)
        rw [List.filter_cons_of_pos (by simpa using this), List.length_cons, List.length_cons, ih n2 h1]
  refine perm_of_sub nd (fun x hx => ?_) ?_
  · obtain ⟨e, he, rfl⟩ := List.mem_map.mp hx
    obtain ⟨i, hi⟩ := List.mem_iff_getElem?.mp he
    obtain ⟨a1, a2, _⟩ := h.2.1 i e hi
    exact List.mem_filter.mpr ⟨a1, by simpa using fun z => a2 (by rw [z]; simp)⟩
  · have h3 := h.2.2
    have h4 : (rowsE E).length = E.length := List.length_map _
    have h5 : (rowsL L).length = L.length := List.length_map _
    omega
theorem papOk_of {E : KE} (hn : (rowsE E).Nodup) {n : Int} {L : List Tri} (h1 : n ∈ rowsE E) (hp : (rowsL L).Perm (lessN E n)) (hw : ∀ i e, L[i]? = some e → e.2.1 ∈ n :: rowsL (L.take i) ∧ Lost E e) : PapOk E n L := by
  have nd : (rowsL L).Nodup := (hp.nodup_iff).mpr (hn.filter _)
  have hin : ∀ r ∈ rowsL L, r ∈ rowsE E ∧ r ≠ n := fun r hr => by
    have := List.mem_filter.mp (hp.mem_iff.mp hr)
    exact ⟨this.1, by simpa using this.2⟩
  refine ⟨h1, fun i e hi => ?_, ?_⟩
  · have hm : e.1 ∈ rowsL L := List.mem_map_of_mem (f := (·.1)) (List.mem_of_getElem? hi)
    refine ⟨(hin _ hm).1, fun z => ?_, (hw i e hi).1, (hw i e hi).2⟩
    rcases List.mem_cons.mp z with z | z
    · exact (hin _ hm).2 z
    · obtain ⟨u, hu, e1⟩ := List.mem_map.mp z
      obtain ⟨j, hj⟩ := List.mem_iff_getElem?.mp hu
      rw [List.getElem?_take] at hj
      split at hj
      · obtain ⟨j1, j2⟩ := List.getElem?_eq_some_iff.mp hj
        obtain ⟨i1, i2⟩ := List.getElem?_eq_some_iff.mp hi
        have := List.pairwise_iff_getElem.mp nd j i (by unfold rowsL; rw [List.length_map]; exact j1) (by unfold rowsL; rw [List.length_map]; exact i1) (by assumption)
        unfold rowsL at this
        rw [List.getElem_map, List.getElem_map, j2, i2] at this
        exact this e1
      · cases hj
  · have h2 := hp.length_eq
    have h5 : (rowsL L).length = L.length := List.length_map _
    have h4 : (rowsE E).length = E.length := List.length_map _
    have : (lessN E n).length + 1 = (rowsE E).length := by
      unfold lessN
      generalize rowsE E = l at hn h1
      clear hp hw hin h2 h4
      induction l with
      | nil => cases h1
      | cons x r ih =>
        obtain ⟨n1, n2⟩ := List.nodup_cons.mp hn
        rcases List.mem_cons.mp h1 with rfl | h1
        · rw [List.filter_cons_of_neg (by simp)]
          have : r.filter (fun x => decide (x ≠ n)) = r := List.filter_eq_self.mpr fun a ha => by
            have : a ≠ n := fun e => n1 (e ▸ ha)
            simpa using this
          rw [this]; rfl
        · have : x ≠ n := fun e => n1 (e ▸ h1)
          rw [List.filter_cons_of_pos (by simpa using this), List.length_cons, List.length_cons, ih n2 h1]
    omega
theorem ok_lshown (T : Tops K mg) (f_l_is_entry : Df P w K mg base 2 "_law_is_entry" ["_law_thing"] spEntry) (f_l_lost : Df P w K mg base 1 "_law_lost" ["_law_key_here", "_law_winner_key", "_law_far", "_law_is_behind"] spLost) : Df P w K mg base 3 "_law_shown" ["_law_heads_here", "_law_n", "_law_thing"] (spShow K) := by
  refine T.t_l_shown.df sc_l_shown (fun vs H Q E h => ?_) (fun cdv f A outer s H vs Q E hr h => ?_)
  · obtain ⟨a, hs, nv, x, d, b, rfl, _⟩ := h
    rfl
  obtain ⟨a, hs, nv, x, d, b, rfl, hS, hA, hn, hk, hri, hnv, hd, hsh, hdl, hb, q⟩ := h
  refine ⟨_, (@pss_cons _ _ _ _ _ (@ps_if _ _ _ _ _ _ _ _ (@PW.pt _ _ _ (@pw_or _ _ _ _ _ _ _ (@pt_not _ _ _ _ (@pt_val _ _ _ (@pe_callB _ _ _ _ _ _ _ _ _ (isiQ K) (by rfl) T.b.n_isinstance boot_isinstance (@pa_cons _ _ _ _ _ (@pv _ 2 _ _ (by rfl) (Or.inl rfl) (by decide) (by decide)) (@pa_cons _ _ _ _ _ (@pe_ty _ _ _ _ T.b.n_list boot_list (by rfl) (by decide) (by decide)) (@pa_nil _) (by rfl)) (by rfl)) (by decide) (by decide) (by rfl) (by rfl)) (by intro _; rfl))) (@pw_or1 _ _ _ _ (@pt_not _ _ _ _ (@pt_val _ _ _ (@pe_callB _ _ _ _ _ _ _ _ _ (allQ K) (by rfl) T.b.n_all boot_all (@pa_cons _ _ _ _ _ (@pe_comp _ _ _ _ _ _ _ _ _ _ _ _ _ _ cs_6 rfl rfl rfl (@iL _ K _ _ _ (@pv _ 2 _ _ (by rfl) (Or.inl rfl) (by decide) (by decide)) (by rfl)) (fun _ _ _ _ => (@cg _ _ _ _ _ _ _ _ _ _ _ 8 cs_6 rfl (by decide +kernel) (by rfl))) (fun _ _ _ _ => (@pts_nil _)) (fun _ _ _ _ => (@pe_df _ _ _ _ _ _ _ _ _ _ _ f_l_is_entry hr (@pa_cons _ _ _ _ _ (@cw _ _ _ _ _ _ _ _ _ _ _ 8 cs_6 rfl (by decide +kernel) (by rfl) (by decide) (by decide)) (@pa_nil _) (by rfl)) (by first | decide | exact Nat.le_refl _ | omega) (comp_glob cs_6 rfl (by decide +kernel)) (by decide) (by rfl) (by rfl))) (by intro _; rfl)) (@pa_nil _) (by rfl)) (by decide) (by decide) (by rfl) (by rfl)) (by intro _; rfl)))))) (@pss_one _ _ _ (@ps_ret _ _ _ _ (@pe_bl _ _ _ _))) (@pss_nil _)) (@pss_cons _ _ _ _ _ (@ps_set _ _ 3 _ _ _ _ sc_l_shown.nd rfl (Or.inl rfl) (@pe_callTy _ _ _ _ _ _ _ _ _ (dictP K) (by rfl) T.b.n_dict boot_dict (@pa_cons _ _ _ _ _ (@pe_comp _ _ _ _ _ _ _ _ _ _ _ _ _ _ cs_7 rfl rfl rfl (@iL _ K _ _ _ (@pv _ 0 _ _ (by rfl) (Or.inl rfl) (by decide) (by decide)) (by rfl)) (fun _ _ _ _ => (@gT _ K _ _ _ 2 _ (@pgs_cons _ _ _ _ _ (@cg _ _ _ _ _ _ _ _ _ _ _ 8 cs_7 rfl (by decide +kernel) (by rfl)) (@pgs_cons _ _ _ _ _ (@cg _ _ _ _ _ _ _ _ _ _ _ 9 cs_7 rfl (by decide +kernel) (by rfl)) (@pgs_nil _) (by rfl)) (by rfl)) (by rfl) (by rfl) (by rfl) (by rfl))) (fun _ _ _ _ => (@pts_one _ _ _ (@pt_cmpR _ _ _ _ _ _ _ _ op_notN (@cw _ _ _ _ _ _ _ _ _ _ _ 9 cs_7 rfl (by decide +kernel) (by rfl) (by decide) (by decide)) (@pe_non _ _ _) (nomark _)))) (fun _ _ _ _ => (@pe_tup _ _ _ _ _ (@pa_cons _ _ _ _ _ (@cw _ _ _ _ _ _ _ _ _ _ _ 8 cs_7 rfl (by decide +kernel) (by rfl) (by decide) (by decide)) (@pa_cons _ _ _ _ _ (@cw _ _ _ _ _ _ _ _ _ _ _ 9 cs_7 rfl (by decide +kernel) (by rfl) (by decide) (by decide)) (@pa_nil _) (by rfl)) (by rfl)))) (by intro _; rfl)) (@pa_nil _) (by rfl)) (by decide) (by decide) (by rfl) (by rfl)) (by rfl) (by first | exact .inl rfl | exact .inr rfl)) (@pss_cons _ _ _ _ _ (@ps_if _ _ _ _ _ _ _ _ (@PW.pt _ _ _ (@pw_or _ _ _ _ _ _ _ (@pt_cmpR _ _ _ _ _ _ _ _ op_isN (@pv _ 1 _ _ (by rfl) (Or.inr (Or.inl rfl)) (by decide) (by decide)) (@pe_non _ _ _) (nomark _)) (@pw_or1 _ _ _ _ (@pt_cmpR _ _ _ _ _ _ _ _ (notInG hr) (@pv _ 1 _ _ (by rfl) (Or.inr (Or.inl rfl)) (by decide) (by decide)) (@pv _ 3 _ _ (by rfl) (Or.inl rfl) (by decide) (by decide)) (by with_unfolding_all rfl))))) (@pss_one _ _ _ (@ps_ret _ _ _ _ (@pe_and _ _ _ _ _ _ _ (@pe_cmpR _ _ _ _ _ _ _ _ op_isN (@pv _ 1 _ _ (by rfl) (Or.inr (Or.inl rfl)) (by decide) (by decide)) (@pe_non _ _ _) (nomark _)) (@pe_and _ _ _ _ _ _ _ (@pe_cmpR _ _ _ _ _ _ _ _ (eqE hr) (@pv _ 3 _ _ (by rfl) (Or.inl rfl) (by decide) (by decide)) (@pe_dnewK _ _) (nomark _)) (@pe_one _ _ _ _ _ (@pe_cmpR _ _ _ _ _ _ _ _ (@eqD _ K _ hr (by rfl)) (@pv _ 2 _ _ (by rfl) (Or.inl rfl) (by decide) (by decide)) (@pe_lst _ _ _ _ (@pa_nil _)) (nomark _))))))) (@pss_nil _)) (@pss_cons _ _ _ _ _ (@ps_if _ _ _ _ _ _ _ _ (@pt_cmpR _ _ _ _ _ _ _ _ (@neD _ K _ hr (by rfl)) (@pe_callB _ _ _ _ _ _ _ _ _ (srtI K) (by rfl) T.b.n_sorted boot_sorted (@pa_cons _ _ _ _ _ (@pe_comp _ _ _ _ _ _ _ _ _ _ _ _ _ _ cs_8 rfl rfl rfl (@iL _ K _ _ _ (@pv _ 2 _ _ (by rfl) (Or.inl rfl) (by decide) (by decide)) (by rfl)) (fun _ _ _ _ => (@cg _ _ _ _ _ _ _ _ _ _ _ 8 cs_8 rfl (by decide +kernel) (by rfl))) (fun _ _ _ _ => (@pts_nil _)) (fun _ _ _ _ => (@pe_ix _ _ _ _ _ _ _ (ixT K) (@cw _ _ _ _ _ _ _ _ _ _ _ 8 cs_8 rfl (by decide +kernel) (by rfl) (by decide) (by decide)) (@pe_int _ _ _ _) (fun _ _ => rfl))) (by intro _; rfl)) (@pa_nil _) (by rfl)) (by decide) (by decide) (by rfl) (by rfl)) (@pe_comp _ _ _ _ _ _ _ _ _ _ _ _ _ _ cs_9 rfl rfl rfl (@iL _ K _ _ _ (@pe_callB _ _ _ _ _ _ _ _ _ srtG (by rfl) T.b.n_sorted boot_sorted (@pa_cons _ _ _ _ _ (@pv _ 3 _ _ (by rfl) (Or.inl rfl) (by decide) (by decide)) (@pa_nil _) (by rfl)) (by decide) (by decide) (by rfl) (by rfl)) (by rfl)) (fun _ _ _ _ => (@cg _ _ _ _ _ _ _ _ _ _ _ 8 cs_9 rfl (by decide +kernel) (by rfl))) (fun _ _ _ _ => (@pts_one _ _ _ (@pt_cmpR _ _ _ _ _ _ _ _ op_ne (@cw _ _ _ _ _ _ _ _ _ _ _ 8 cs_9 rfl (by decide +kernel) (by rfl) (by decide) (by decide)) (@cv _ _ _ _ _ _ _ _ _ _ _ 1 cs_9 rfl (by decide +kernel) (by rfl) (by decide) (by decide)) (nomark _)))) (fun _ _ _ _ => (@cw _ _ _ _ _ _ _ _ _ _ _ 8 cs_9 rfl (by decide +kernel) (by rfl) (by decide) (by decide))) (by intro _; rfl)) (nomark _)) (@pss_one _ _ _ (@ps_ret _ _ _ _ (@pe_bl _ _ _ _))) (@pss_nil _)) (@pss_cons _ _ _ _ _ (@ps_for _ _ _ _ _ _ _ _ PassesOwn.never rfl (@iE _ K _ _ _ _ _ _ _ T.b.n_enumerate (@pa_cons _ _ _ _ _ (@pv _ 2 _ _ (by rfl) (Or.inl rfl) (by decide) (by decide)) (@pa_nil _) (by rfl)) (by rfl) (by rfl) (by rfl)) (@gT _ K _ _ _ 2 _ (@pgs_cons _ _ _ _ _ (@pg_name _ _ 4 _ sc_l_shown.nd rfl (Or.inl rfl) (by first | exact .inl rfl | exact .inr rfl)) (@pgs_cons _ _ _ _ _ (@gT _ K _ _ _ 3 _ (@pgs_cons _ _ _ _ _ (@pg_name _ _ 5 _ sc_l_shown.nd rfl (Or.inl rfl) (by first | exact .inl rfl | exact .inr rfl)) (@pgs_cons _ _ _ _ _ (@pg_name _ _ 6 _ sc_l_shown.nd rfl (Or.inl rfl) (by first | exact .inl rfl | exact .inr rfl)) (@pgs_cons _ _ _ _ _ (@pg_name _ _ 7 _ sc_l_shown.nd rfl (Or.inl rfl) (by first | exact .inl rfl | exact .inr rfl)) (@pgs_nil _) (by rfl)) (by rfl)) (by rfl)) (by rfl) (by rfl) (by rfl) (by rfl)) (@pgs_nil _) (by rfl)) (by rfl)) (by rfl) (by rfl) (by rfl) (by rfl)) (@pss_cons _ _ _ _ _ (@ps_if _ _ _ _ _ _ _ _ (@PW.pt _ _ _ (@pw_and _ _ _ _ _ _ _ (@pt_cmpR _ _ _ _ _ _ _ _ op_ne (@pv _ 6 _ _ (by rfl) (Or.inl rfl) (by decide) (by decide)) (@pv _ 1 _ _ (by rfl) (Or.inr (Or.inl rfl)) (by decide) (by decide)) (nomark _)) (@pw_and1 _ _ _ _ (@pt_cmpR _ _ _ _ _ _ _ _ (notInQ K) (@pv _ 6 _ _ (by rfl) (Or.inl rfl) (by decide) (by decide)) (@pe_comp _ _ _ _ _ _ _ _ _ _ _ _ _ _ cs_10 rfl rfl rfl (@iL _ K _ _ _ (@pe_slice _ _ _ _ _ _ _ _ _ _ (slL K) (@pv _ 2 _ _ (by rfl) (Or.inl rfl) (by decide) (by decide)) (@po_none _) (@po_some _ _ _ (@pv _ 4 _ _ (by rfl) (Or.inl rfl) (by decide) (by decide)))) (by rfl)) (fun _ _ _ _ => (@cg _ _ _ _ _ _ _ _ _ _ _ 8 cs_10 rfl (by decide +kernel) (by rfl))) (fun _ _ _ _ => (@pts_nil _)) (fun _ _ _ _ => (@pe_ix _ _ _ _ _ _ _ (ixT K) (@cw _ _ _ _ _ _ _ _ _ _ _ 8 cs_10 rfl (by decide +kernel) (by rfl) (by decide) (by decide)) (@pe_int _ _ _ _) (fun _ _ => rfl))) (by intro _; rfl)) (by with_unfolding_all rfl))))) (@pss_one _ _ _ (@ps_ret _ _ _ _ (@pe_bl _ _ _ _))) (@pss_nil _)) (@pss_one _ _ _ (@ps_if _ _ _ _ _ _ _ _ (@PW.pt _ _ _ (@pw_or _ _ _ _ _ _ _ (@pt_cmpR _ _ _ _ _ _ _ _ op_lt (@pv _ 7 _ _ (by rfl) (Or.inl rfl) (by decide) (by decide)) (@pe_int _ _ _ _) (nomark _)) (@pw_or1 _ _ _ _ (@pt_not _ _ _ _ (@pt_val _ _ _ (@pe_df _ _ _ _ _ _ _ _ _ _ _ f_l_lost hr (@pa_cons _ _ _ _ _ (@pe_ix _ _ _ _ _ _ _ (ixG hr) (@pv _ 3 _ _ (by rfl) (Or.inl rfl) (by decide) (by decide)) (@pv _ 5 _ _ (by rfl) (Or.inl rfl) (by decide) (by decide)) (fun _ _ => rfl)) (@pa_cons _ _ _ _ _ (@pe_ix _ _ _ _ _ _ _ (ixG hr) (@pv _ 3 _ _ (by rfl) (Or.inl rfl) (by decide) (by decide)) (@pv _ 6 _ _ (by rfl) (Or.inl rfl) (by decide) (by decide)) (fun _ _ => rfl)) (@pa_cons _ _ _ _ _ (@pv _ 7 _ _ (by rfl) (Or.inl rfl) (by decide) (by decide)) (@pa_cons _ _ _ _ _ (@pe_cmpR _ _ _ _ _ _ _ _ op_lt (@pv _ 6 _ _ (by rfl) (Or.inl rfl) (by decide) (by decide)) (@pv _ 5 _ _ (by rfl) (Or.inl rfl) (by decide) (by decide)) (nomark _)) (@pa_nil _) (by rfl)) (by rfl)) (by rfl)) (by rfl)) (by first | decide | exact Nat.le_refl _ | omega) (by rfl) (by decide) (by rfl) (by rfl)) (by intro _; rfl)))))) (@pss_one _ _ _ (@ps_ret _ _ _ _ (@pe_bl _ _ _ _))) (@pss_nil _)))) (by intro _; rfl)) (@pss_one _ _ _ (@ps_ret _ _ _ _ (@pe_bl _ _ _ _)))))))), ?_⟩
  have hl1 := hd.kL K
  have hb' : b = true ↔ Shown (keyed hs) nv d := hb
  refine ⟨_, rfl, _, "list", _, _, rfl, hd.ty, hl1, _, rfl, ?_⟩
  cases hl : isLstD d with
  | false =>
    refine iteT (iteT ?_)
    have : b = false := hb.no fun z => by rcases z with ⟨_, _, rfl⟩ | ⟨_, _, _, rfl, _⟩ <;> cases hl
    rw [this] at q
    exact q H (Same.refl _)
  | true =>
  obtain ⟨t0, xs, ds, rfl, rfl, ht0, hds⟩ := hd.lst_inv hl
  have hxl := hds.length
  have hdl' := hdl _ rfl
  refine iteF ⟨_, rfl, t0, rfl, ⟨_, SqL.of ht0⟩, fun B hB => ?_⟩
  refine comp_lF (K := K) (a := t0) (xs := xs) (fun i zs σ H2 => (∃ v1 : Option V, σ = [some (.ref a), some nv, some (.ref t0), none, none, none, none, none, v1]) ∧ zs = ((ds.map isTripD).take i).map V.bl ∧ i ≤ xs.length ∧ H2 B = some (.lst zs) ∧ Same H H2) ?_ (fun _ _ _ _ h => SqL.of (h.2.2.2.2 _ _ ht0)) ?_ ?_
  · exact ⟨⟨none, rfl⟩, rfl, Nat.zero_le _, upd_same, same_new hB _⟩
  · rintro i x zs σ H2 hx ⟨⟨v1, rfl⟩, rfl, hi, hB2, s2⟩
    obtain ⟨d', hd', hdx⟩ := hds.get hx
    have hil : i < xs.length := (List.getElem?_eq_some_iff.mp hx).1
    refine ⟨_, rfl, x, d', rfl, hdx.mono s2, fun H3 s3 => ⟨s3 _ _ hB2, (by rw [List.length_map, List.length_take]; exact small1000 (by omega)), ⟨_, rfl⟩, ?_, hil, upd_same, fun b o hb => ?_⟩⟩
    · rw [List.take_add_one, List.map_append, List.getElem?_map, hd']; rfl
    · rw [upd_ne (ne_of_none hb hB)]; exact s3 _ _ (s2 b o hb)
  rintro zs σ H2 ⟨⟨v1, rfl⟩, rfl, _, hB2, s2⟩
  rw [List.take_of_length_le (by rw [List.length_map]; omega)] at hB2
  refine ⟨B, _, rfl, SqL.of hB2, _, rfl, ?_⟩
  cases hall : (ds.map isTripD).all id with
  | false =>
    refine iteT ?_
    have : b = false := hb.no fun z => by
      have : (ds.map isTripD).all id = true := by
        rcases z with ⟨_, _, h2⟩ | ⟨_, L, _, h2, _⟩
        · injection h2 with h2; rw [h2]; rfl
        · injection h2 with h2
          rw [h2, List.map_map]
          simp [trip_t3]
      rw [hall] at this; cases this
    rw [this] at q
    exact q _ s2
  | true =>
  refine iteF ?_
  obtain ⟨ts, L, rfl, rfl, hLl, hts⟩ := trips_of (ds := ds) (fun d hd => by
    have := List.all_eq_true.mp hall (isTripD d) (List.mem_map_of_mem hd)
    exact this) hds
  rw [List.length_map, List.length_map] at hxl
  rw [List.length_map] at hdl'
  -- the dict of keys
  refine ⟨_, rfl, a, rfl, ⟨_, s2.seq hS⟩, fun B2 hB2' => ?_⟩
  have hS2 := s2.seq hS
  refine comp_lF (K := K) (a := a) (xs := hrefs hs) (fun i zs σ H3 => (∃ v1 v2 : Option V, σ = [some (.ref a), some nv, some (.ref t0), none, none, none, none, none, v1, v2]) ∧ (∃ us : List (Addr × Key × V), zs = us.map (fun t => V.ref t.1) ∧ us.map (·.2) = kvE (keyed (hs.take i)) ∧ ∀ t ∈ us, H3 t.1 = some (.tup [kV t.2.1, t.2.2])) ∧ i ≤ hs.length ∧ H3 B2 = some (.lst zs) ∧ Same H2 H3) ?_ (fun _ _ _ _ h => h.2.2.2.2.seq hS2) ?_ ?_
  · exact ⟨⟨none, none, rfl⟩, ⟨[], rfl, rfl, fun t h => by cases h⟩, Nat.zero_le _, upd_same, same_new hB2' _⟩
  · rintro i x zs σ H3 hx ⟨⟨v1, v2, rfl⟩, ⟨us, rfl, hus, hut⟩, hi, hB3, s3⟩
    obtain ⟨h, hh, rfl⟩ := href_at hx
    have hil : i < hs.length := (List.getElem?_eq_some_iff.mp hh).1
    have hH := (hA.mono s2).mono s3 h (List.mem_of_getElem? hh)
    refine ⟨h.1, _, rfl, SqT.of hH, rfl, _, _, rfl, _, _, rfl, rfl, ?_⟩
    cases hz : h.2.2 with
    | none =>
      have kt := keyed_take hs i hh
      rw [hz, List.append_nil] at kt
      exact ⟨_, rfl, rfl, _, rfl, iteNS rfl ⟨⟨_, _, rfl⟩, ⟨us, rfl, by rw [hus, kt], hut⟩, hil, hB3, s3⟩⟩
    | some z =>
      have hul : us.length = (kvE (keyed (hs.take i))).length := by rw [← hus, List.length_map]
      have hkl2 := keyed_len (hs.take i)
      rw [List.length_take] at hkl2
      have hkl3 : (kvE (keyed (hs.take i))).length = (keyed (hs.take i)).length := List.length_map _
      refine ⟨_, rfl, rfl, _, rfl, iteNN (by intro e; cases e) ⟨_, rfl, _, rfl, (by show 2 ≤ sizeLine; decide), fun m hm => ?_⟩⟩
      have sm := same_new hm (.tup [.int h.2.1, .str z])
      have hB4 := sm _ _ hB3
      have nBm : B2 ≠ m := ne_of_none hB3 hm
      refine ⟨hB4, (by rw [List.length_map]; exact small1000 (by omega)), ⟨_, _, rfl⟩, ⟨us ++ [(m, .inl h.2.1, .str z)], by rw [List.map_append]; rfl, by rw [List.map_append, hus, kv_add hri hh hz]; rfl, fun t ht => ?_⟩, hil, upd_same, fun b o hb => ?_⟩
      · rcases List.mem_append.mp ht with ht | ht
        · exact tup_keep hB4 _ _ _ (sm _ _ (hut t ht))
        · rw [List.mem_singleton.mp ht, upd_ne nBm.symm]; exact upd_same
      · rw [upd_ne (ne_of_none hb hB2')]; exact sm _ _ (s3 b o hb)
  rintro zs σ H3 ⟨⟨v1, v2, rfl⟩, ⟨us, rfl, hus, hut⟩, _, hB3, s3⟩
  rw [show (hrefs hs).length = hs.length from List.length_map _, List.take_of_length_le (Nat.le_refl _)] at hus
  have hnd : (rowsE (keyed hs)).Nodup := keyed_rows hs hri
  have hlen : ∀ u ∈ keyed hs, u.1.length ≤ 1000 := fun u hu => by have := (keyed_ok hk u hu).1; omega
  have hkl : (kvE (keyed hs)).length = (keyed hs).length := List.length_map _
  have hkn := keyed_len hs
  have hul : us.length = (kvE (keyed hs)).length := by rw [← hus, List.length_map]
  refine ⟨B2, us, rfl, SqL.of hB3, hut, by omega, fun D hD => ?_⟩
  rw [hus, mergeK_nd (kvE (keyed hs)) [] (by rw [List.nil_append, kvE_keys]; exact inl_nd hnd), List.nil_append]
  have s4 := same_new hD (.dK (kvE (keyed hs)))
  have hD4 : (upd H3 D (.dK (kvE (keyed hs)))) D = some (.dK (kvE (keyed hs))) := upd_same
  generalize upd H3 D (.dK (kvE (keyed hs))) = H4 at s4 hD4 ⊢
  have sH4 : Same H H4 := (s2.trans s3).trans s4
  have ht4 := sH4 _ _ ht0
  rcases hnv with rfl | ⟨n, rfl⟩
  · have fin : ∀ (c : Bool) (H' : Hp), Same H H' → (c = true ↔ (keyed hs = [] ∧ L = [])) → Q (.bl c) H' := fun c H' s' hc => by
      have : b = c := by
        rw [Bool.eq_iff_iff, hb', hc]
        constructor
        · rintro (⟨_, h1, h2⟩ | ⟨_, _, h1, _⟩)
          · injection h2 with h2; exact ⟨h1, List.map_eq_nil_iff.mp h2⟩
          · cases h1
        · rintro ⟨h1, h2⟩
          exact .inl ⟨rfl, h1, by rw [h2]; rfl⟩
      rw [← this]; exact q _ s'
    refine ⟨_, rfl, rfl, _, rfl, iteD rfl (iteT ?_)⟩
    refine ⟨_, rfl, rfl, _, rfl, iteD rfl ?_⟩
    refine ⟨_, rfl, fun e he => ⟨D, e, _, rfl, rfl, same_new he _ _ _ hD4, upd_same, _, rfl, ?_⟩⟩
    have s5 := same_new he (.dK [])
    generalize upd H4 e (.dK []) = H5 at s5 ⊢
    cases hE : keyed hs with
    | cons u r => exact iteF (fin _ _ (sH4.trans s5) ⟨fun z => (Bool.false_ne_true z).elim, fun z => by rw [hE] at z; cases z.1⟩)
    | nil =>
      refine iteT ⟨_, rfl, (by show 0 ≤ sizeLine; decide), fun e2 he2 => ?_⟩
      have s6 := same_new he2 (.lst [])
      have ds6 := (hds.mono ((sH4.trans s5).trans s6)).dv (K := K)
      refine ⟨.list (L.map t3D), .list [], .lst (SqL.of (s6 _ _ (s5 _ _ ht4))) ds6, .lst (SqL.of upd_same) .nil, shaped_t3 L, (by decide +kernel), ?_⟩
      refine fin _ _ ((sH4.trans s5).trans s6) ⟨fun z => ⟨hE, ?_⟩, fun z => ?_⟩
      · cases L with
        | nil => rfl
        | cons u r => exact absurd z (by simp [PyData.eqv, PyData.eqvAll])
      · rw [z.2]; decide +kernel
  · have no : ∀ H', Same H H' → ¬ PapOk (keyed hs) n L → Q (.bl false) H' := fun H' s' z => by
      have : b = false := hb.no fun y => by
        rcases y with ⟨h1, _⟩ | ⟨n', M, h1, h2, h3⟩
        · cases h1
        · injection h1 with h1
          subst h1
          injection h2 with h2
          rw [← t3Ds_inj h2] at h3
          exact z h3
      rw [← this]; exact q _ s'
    refine ⟨_, rfl, rfl, _, rfl, iteDN (by intro z; cases z) ?_⟩
    cases hv : valV (kvE (keyed hs)) (.inl n) with
    | none => exact ⟨_, rfl, _, rfl, D, none, rfl, dget hD4 hv, _, rfl, iteT ⟨_, rfl, rfl, _, rfl, iteDN (by intro z; cases z) (no _ sH4 fun hp => kvE_none hv hp.1)⟩⟩
    | some v =>
    obtain ⟨zn, rfl, hzn⟩ := kvE_some hv
    have hnr : n ∈ rowsE (keyed hs) := List.mem_map_of_mem (f := (·.2)) hzn
    refine ⟨_, rfl, _, rfl, D, _, rfl, dget hD4 hv, _, rfl, iteF ?_⟩
    -- sorted rows
    refine ⟨_, rfl, t0, rfl, ⟨_, SqL.of ht4⟩, fun B5 hB5' => ?_⟩
    refine comp_lF (K := K) (a := t0) (xs := ts.map V.ref) (fun i zs σ H5 => (∃ v1 : Option V, σ = [some (.ref a), some (.int n), some (.ref t0), some (.ref D), none, none, none, none, v1]) ∧ zs = ((rowsL L).take i).map V.int ∧ i ≤ ts.length ∧ H5 B5 = some (.lst zs) ∧ Same H4 H5) ?_ (fun _ _ _ _ h => SqL.of (h.2.2.2.2 _ _ ht4)) ?_ ?_
    · exact ⟨⟨none, rfl⟩, rfl, Nat.zero_le _, upd_same, same_new hB5' _⟩
    · rintro i x zs σ H5 hx ⟨⟨v1, rfl⟩, rfl, hi, hB5, s5⟩
      rw [List.getElem?_map] at hx
      cases ht : ts[i]? with
      | none => rw [ht] at hx; cases hx
      | some t =>
      rw [ht] at hx
      cases hx
      have hil : i < ts.length := (List.getElem?_eq_some_iff.mp ht).1
      have hu : L[i]? = some (L[i]'(by omega)) := List.getElem?_eq_getElem _
      have hH := (sH4.trans s5) _ _ (hts i t _ ht hu)
      refine ⟨_, rfl, t, _, _, _, rfl, rfl, SqT.of hH, rfl, hB5, (by rw [List.length_map, List.length_take]; exact small1000 (by omega)), ⟨_, rfl⟩, ?_, hil, upd_same, fun b o hb => ?_⟩
      · unfold rowsL
        rw [List.take_add_one, List.map_append, List.getElem?_map, hu]; rfl
      · rw [upd_ne (ne_of_none hb hB5')]; exact s5 b o hb
    rintro zs σ H5 ⟨⟨v1, rfl⟩, rfl, _, hB5, s5⟩
    have hrl : (rowsL L).length = L.length := List.length_map _
    rw [List.take_of_length_le (by rw [List.length_map]; omega)] at hB5
    refine ⟨B5, rowsL L, rfl, SqL.of hB5, by omega, fun l1 ns1 hl1' pm1 pw1 => ?_⟩
    have s6 := same_new hl1' (.lst (ns1.map V.int))
    have hl6 : (upd H5 l1 (.lst (ns1.map V.int))) l1 = some (.lst (ns1.map V.int)) := upd_same
    generalize upd H5 l1 (.lst (ns1.map V.int)) = H6 at s6 hl6 ⊢
    have s46 := s5.trans s6
    have hrE : (rowsE (keyed hs)).length = (keyed hs).length := List.length_map _
    refine ⟨_, rfl, D, _, rowsE (keyed hs), rfl, s46 _ _ hD4, kvE_keys _, by omega, fun l2 ns2 hl2' pm2 pw2 => ?_⟩
    have s7 := same_new hl2' (.lst (ns2.map V.int))
    have hl7 : (upd H6 l2 (.lst (ns2.map V.int))) l2 = some (.lst (ns2.map V.int)) := upd_same
    generalize upd H6 l2 (.lst (ns2.map V.int)) = H7 at s7 hl7 ⊢
    refine ⟨l2, rfl, ⟨_, SqL.of hl7⟩, fun B8 hB8' => ?_⟩
    refine comp_lF (K := K) (a := l2) (xs := ns2.map V.int) (fun i zs σ H8 => (∃ v1 : Option V, σ = [some (.ref a), some (.int n), some (.ref t0), some (.ref D), none, none, none, none, v1]) ∧ zs = ((ns2.take i).filter (fun r => decide (r ≠ n))).map V.int ∧ i ≤ ns2.length ∧ H8 B8 = some (.lst zs) ∧ Same H7 H8) ?_ (fun _ _ _ _ h => SqL.of (h.2.2.2.2 _ _ hl7)) ?_ ?_
    · exact ⟨⟨none, rfl⟩, rfl, Nat.zero_le _, upd_same, same_new hB8' _⟩
    · rintro i x zs σ H8 hx ⟨⟨v1, rfl⟩, rfl, hi, hB8, s8⟩
      rw [List.getElem?_map] at hx
      cases hm : ns2[i]? with
      | none => rw [hm] at hx; cases hx
      | some m =>
      rw [hm] at hx
      cases hx
      have hil : i < ns2.length := (List.getElem?_eq_some_iff.mp hm).1
      have ef : (ns2.take (i + 1)).filter (fun r => decide (r ≠ n)) = (ns2.take i).filter (fun r => decide (r ≠ n)) ++ [m].filter (fun r => decide (r ≠ n)) := by rw [List.take_add_one, hm, List.filter_append]; rfl
      refine ⟨_, rfl, _, rfl, rfl, _, rfl, ?_⟩
      by_cases hmn : V.int m = V.int n
      · have e : m = n := by injection hmn
        refine iteNS hmn ⟨⟨_, rfl⟩, ?_, hil, hB8, s8⟩
        rw [ef, List.filter_cons_of_neg (by simpa using e)]
        simp
      · have e : m ≠ n := fun e => hmn (by rw [e])
        refine iteNN hmn ⟨_, rfl, hB8, ?_, ⟨_, rfl⟩, ?_, hil, upd_same, fun b o hb => ?_⟩
        · rw [List.length_map]
          have := List.length_filter_le (fun r => decide (r ≠ n)) (ns2.take i)
          rw [List.length_take] at this
          have := pm2.length_eq
          exact small1000 (by omega)
        · rw [ef, List.filter_cons_of_pos (by simpa using e), List.map_append]; rfl
        · rw [upd_ne (ne_of_none hb hB8')]; exact s8 b o hb
    rintro zs σ H8 ⟨⟨v1, rfl⟩, rfl, _, hB8, s8⟩
    rw [List.length_map, List.take_of_length_le (Nat.le_refl _)] at hB8
    have s68 := s7.trans s8
    refine ⟨.list (ns1.map PyData.int), .list ((ns2.filter (fun r => decide (r ≠ n))).map PyData.int), .lst (SqL.of (s68 _ _ hl6)) (dv_ints ns1), .lst (SqL.of hB8) (dv_ints _), shaped_ints _, shaped_ints _, _, rfl, ?_⟩
    rw [eqv_intsD]
    have s48 := s46.trans s68
    have sH8 := sH4.trans s48
    have pf : (ns2.filter (fun r => decide (r ≠ n))).Perm (lessN (keyed hs) n) := pm2.filter _
    by_cases heq : ¬ ns1 = ns2.filter (fun r => decide (r ≠ n))
    · have ev : (if true = true then !decide (ns1 = ns2.filter (fun r => decide (r ≠ n))) else decide (ns1 = ns2.filter (fun r => decide (r ≠ n)))) = true := by rw [if_pos rfl, decide_eq_false heq]; rfl
      rw [ev]
      refine iteT (no _ sH8 fun hp => heq ?_)
      exact sorted_one pw1 (pw2.filter _) (pm1.trans ((papOk_perm hnd hp).trans pf.symm))
    have heq := Classical.not_not.mp heq
    have ev : (if true = true then !decide (ns1 = ns2.filter (fun r => decide (r ≠ n))) else decide (ns1 = ns2.filter (fun r => decide (r ≠ n)))) = false := by rw [if_pos rfl, decide_eq_true heq]; rfl
    rw [ev]
    refine iteF ?_
    have hperm : (rowsL L).Perm (lessN (keyed hs) n) := pm1.symm.trans (by rw [heq]; exact pf)
    have ht8 := s48 _ _ ht4
    have hD8 := s48 _ _ hD4
    refine ⟨_, rfl, t0, ts.map V.ref, rfl, SqL.of ht8, ?_⟩
    refine for_enum (K := K) (a := t0) (xs := ts.map V.ref) (fun i σ H9 => (∃ v4 v5 v6 v7 : Option V, σ = [some (.ref a), some (.int n), some (.ref t0), some (.ref D), v4, v5, v6, v7]) ∧ (∀ j e, j < i → L[j]? = some e → e.2.1 ∈ n :: rowsL (L.take j) ∧ Lost (keyed hs) e) ∧ i ≤ ts.length ∧ Same H8 H9) ⟨⟨none, none, none, none, rfl⟩, fun j e h => by omega, Nat.zero_le _, Same.refl _⟩ (fun _ _ _ ⟨_, _, _, s9⟩ => SqL.of (s9 _ _ ht8)) ?_ ?_
    · rintro i x σ H9 p hx ⟨⟨v4, v5, v6, v7, rfl⟩, hok, hi, s9⟩ hp
      rw [List.getElem?_map] at hx
      cases ht : ts[i]? with
      | none => rw [ht] at hx; cases hx
      | some t =>
      rw [ht] at hx
      cases hx
      have hil : i < ts.length := (List.getElem?_eq_some_iff.mp ht).1
      have hu : L[i]? = some (L[i]'(by omega)) := List.getElem?_eq_getElem _
      generalize L[i]'(by omega) = u at hu
      obtain ⟨ur, uw, uf⟩ := u
      have hH := (sH8.trans s9) _ _ (hts i t _ ht hu)
      have s10 := same_new hp (.tup [.int (i : Int), .ref t])
      have hp10 : (upd H9 p (.tup [.int (i : Int), .ref t])) p = some (.tup [.int (i : Int), .ref t]) := upd_same
      generalize upd H9 p (.tup [.int (i : Int), .ref t]) = H10 at s10 hp10 ⊢
      have s810 := s9.trans s10
      have hL20 : L.length ≤ 40 := hdl'
      refine ⟨p, _, rfl, SqT.of hp10, rfl, _, _, rfl, _, _, rfl, t, _, rfl, SqT.of (s10 _ _ hH), rfl, _, _, rfl, _, _, rfl, _, _, rfl, rfl, rfl, ?_⟩
      have bad : ∀ H', Same H H' → ¬ (uw ∈ n :: rowsL (L.take i) ∧ Lost (keyed hs) (ur, uw, uf)) → Q (.bl false) H' := fun H' s' z => no _ s' fun hp => z (hp.2.1 i _ hu).2.2
      have hin : ∀ r ∈ rowsL L, r ∈ rowsE (keyed hs) := fun r hr => (List.mem_filter.mp (hperm.mem_iff.mp hr)).1
      have hwE : uw ∈ n :: rowsL (L.take i) → uw ∈ rowsE (keyed hs) := fun h => by
        rcases List.mem_cons.mp h with rfl | h
        · exact hnr
        · refine hin _ ?_
          unfold rowsL at h ⊢
          rw [List.map_take] at h
          exact List.mem_of_mem_take h
      obtain ⟨z, hz⟩ := rows_at (hin ur (List.mem_map_of_mem (f := (·.1)) (List.mem_of_getElem? hu)))
      refine ⟨_, rfl, _, rfl, rfl, _, rfl, ?_⟩
      by_cases hwn : V.int uw = V.int n
      · have hw : uw ∈ n :: rowsL (L.take i) := by
          injection hwn with hwn
          rw [hwn]; simp
        refine iteNS hwn (iteF ?_)
        have sD := s810
        have sX := sH8.trans s810
        refine ⟨_, rfl, _, _, rfl, rfl, _, rfl, ?_⟩
        by_cases hf0 : uf < 0
        · exact iteD hf0 (iteT (bad _ sX fun ⟨_, z, y, _, _, e, _⟩ => by simp only at e; omega))
        refine iteDN hf0 ?_
        obtain ⟨far, rfl⟩ : ∃ far : Nat, uf = (far : Int) := ⟨uf.toNat, by omega⟩
        obtain ⟨y, hy⟩ := rows_at (hwE hw)
        obtain ⟨bb, hbb⟩ : ∃ bb : Bool, bb = true ↔ (far = lcp (cds z) (cds y) ∧ (0 < ordC (cds z) (cds y) ∨ (ordC (cds z) (cds y) = 0 ∧ decide (uw < ur) = true))) := by
          by_cases h : far = lcp (cds z) (cds y) ∧ (0 < ordC (cds z) (cds y) ∨ (ordC (cds z) (cds y) = 0 ∧ decide (uw < ur) = true))
          · exact ⟨true, fun _ => h, fun _ => rfl⟩
          · exact ⟨false, fun z => (Bool.false_ne_true z).elim, fun z => absurd z h⟩
        refine ⟨_, rfl, _, rfl, D, _, rfl, dget (sD _ _ hD8) (kvE_at hnd hz), _, rfl, _, rfl, D, _, rfl, dget (sD _ _ hD8) (kvE_at hnd hy), _, rfl, _, rfl, _, rfl, _, _, rfl, rfl, z, y, far, decide (uw < ur), bb, rfl, hlen _ hz, hlen _ hy, hbb, _, rfl, ?_⟩
        cases bb with
        | false =>
          refine iteT (bad _ sX fun hh => ?_)
          obtain ⟨_, z', y', hz', hy', e1, e2⟩ := hh
          rw [key_one hnd hz' hz, key_one hnd hy' hy] at e1 e2
          refine absurd (hbb.mpr ⟨by simp only at e1; omega, ?_⟩) Bool.false_ne_true
          rcases e2 with e2 | e2
          · exact .inl e2
          · exact .inr ⟨e2.1, decide_eq_true e2.2⟩
        | true =>
          obtain ⟨g1, g2⟩ := hbb.mp rfl
          refine iteF ⟨⟨_, _, _, _, rfl⟩, fun j e hj he => ?_, hil, sD⟩
          by_cases hji : j = i
          · subst hji
            rw [hu] at he
            cases he
            refine ⟨hw, z, y, hz, hy, by simp only; omega, ?_⟩
            rcases g2 with g2 | g2
            · exact .inl g2
            · exact .inr ⟨g2.1, of_decide_eq_true g2.2⟩
          · exact hok j e (by omega) he
      · refine iteNN hwn ?_
        have e1 : cutV (ts.map V.ref) none (some (i : Int)) = (ts.take i).map V.ref := by
          unfold cutV
          rw [HT.sIx_none, HT.sIx_nat, List.length_map, List.drop_zero, Nat.min_eq_left (by omega), ← List.map_take]; rfl
        refine ⟨_, rfl, _, rfl, _, rfl, _, rfl, t0, _, rfl, SqL.of (s810 _ _ ht8), fun sl hsl => ?_⟩
        rw [e1]
        have s11 := same_new hsl (.lst ((ts.take i).map V.ref))
        have hsl11 : (upd H10 sl (.lst ((ts.take i).map V.ref))) sl = some (.lst ((ts.take i).map V.ref)) := upd_same
        generalize upd H10 sl (.lst ((ts.take i).map V.ref)) = H11 at s11 hsl11 ⊢
        refine ⟨sl, rfl, ⟨_, SqL.of hsl11⟩, fun B12 hB12' => ?_⟩
        refine comp_lF (K := K) (a := sl) (xs := (ts.take i).map V.ref) (fun k zs σ H12 => (∃ v1 : Option V, σ = [some (.ref a), some (.int n), some (.ref t0), some (.ref D), some (.int (i : Int)), some (.int ur), some (.int uw), some (.int uf), v1]) ∧ zs = ((rowsL L).take k).map V.int ∧ k ≤ i ∧ H12 B12 = some (.lst zs) ∧ Same H11 H12) ?_ (fun _ _ _ _ h => SqL.of (h.2.2.2.2 _ _ hsl11)) ?_ ?_
        · exact ⟨⟨none, rfl⟩, rfl, Nat.zero_le _, upd_same, same_new hB12' _⟩
        · rintro k x zs σ H12 hx ⟨⟨v1, rfl⟩, rfl, hk', hB12, s12⟩
          rw [List.getElem?_map] at hx
          cases htk : (ts.take i)[k]? with
          | none => rw [htk] at hx; cases hx
          | some t' =>
          rw [htk] at hx
          cases hx
          rw [List.getElem?_take] at htk
          split at htk
          case isFalse => cases htk
          case isTrue hki =>
          have hkl' : k < L.length := by omega
          have hu' : L[k]? = some L[k] := List.getElem?_eq_getElem hkl'
          have hH' := (((sH8.trans s810).trans s11).trans s12) _ _ (hts k t' _ htk hu')
          refine ⟨_, rfl, t', _, _, _, rfl, rfl, SqT.of hH', rfl, hB12, (by rw [List.length_map, List.length_take]; exact small1000 (by omega)), ⟨_, rfl⟩, ?_, by omega, upd_same, fun b o hb => ?_⟩
          · unfold rowsL
            rw [List.take_add_one, List.map_append, List.getElem?_map, hu']; rfl
          · rw [upd_ne (ne_of_none hb hB12')]; exact s12 b o hb
        rintro zs σ H12 ⟨⟨v1, rfl⟩, rfl, _, hB12, s12⟩
        rw [List.length_map, List.length_take, Nat.min_eq_left (by omega)] at hB12
        refine ⟨B12, _, rfl, .inl (SqL.of hB12), rfl, flat_ints _, _, rfl, ?_⟩
        rw [inV_int]
        have sD : Same H8 H12 := (s810.trans s11).trans s12
        have sX : Same H H12 := sH8.trans sD
        have ew : rowsL (L.take i) = (rowsL L).take i := by unfold rowsL; rw [List.map_take]
        by_cases hwm : ¬ uw ∈ (rowsL L).take i
        · have ev2 : (if true = true then !decide (uw ∈ (rowsL L).take i) else decide (uw ∈ (rowsL L).take i)) = true := by rw [if_pos rfl, decide_eq_false hwm]; rfl
          rw [ev2]
          refine iteT (bad _ sX fun h => ?_)
          rcases List.mem_cons.mp h.1 with h | h
          · exact hwn (by rw [h])
          · rw [ew] at h; exact hwm h
        have hwm := Classical.not_not.mp hwm
        have ev2 : (if true = true then !decide (uw ∈ (rowsL L).take i) else decide (uw ∈ (rowsL L).take i)) = false := by rw [if_pos rfl, decide_eq_true hwm]; rfl
        rw [ev2]
        have hw : uw ∈ n :: rowsL (L.take i) := by rw [ew]; exact List.mem_cons_of_mem _ hwm
        refine iteF ?_
        refine ⟨_, rfl, _, _, rfl, rfl, _, rfl, ?_⟩
        by_cases hf0 : uf < 0
        · exact iteD hf0 (iteT (bad _ sX fun ⟨_, z, y, _, _, e, _⟩ => by simp only at e; omega))
        refine iteDN hf0 ?_
        obtain ⟨far, rfl⟩ : ∃ far : Nat, uf = (far : Int) := ⟨uf.toNat, by omega⟩
        obtain ⟨y, hy⟩ := rows_at (hwE hw)
        obtain ⟨bb, hbb⟩ : ∃ bb : Bool, bb = true ↔ (far = lcp (cds z) (cds y) ∧ (0 < ordC (cds z) (cds y) ∨ (ordC (cds z) (cds y) = 0 ∧ decide (uw < ur) = true))) := by
          by_cases h : far = lcp (cds z) (cds y) ∧ (0 < ordC (cds z) (cds y) ∨ (ordC (cds z) (cds y) = 0 ∧ decide (uw < ur) = true))
          · exact ⟨true, fun _ => h, fun _ => rfl⟩
          · exact ⟨false, fun z => (Bool.false_ne_true z).elim, fun z => absurd z h⟩
        refine ⟨_, rfl, _, rfl, D, _, rfl, dget (sD _ _ hD8) (kvE_at hnd hz), _, rfl, _, rfl, D, _, rfl, dget (sD _ _ hD8) (kvE_at hnd hy), _, rfl, _, rfl, _, rfl, _, _, rfl, rfl, z, y, far, decide (uw < ur), bb, rfl, hlen _ hz, hlen _ hy, hbb, _, rfl, ?_⟩
        cases bb with
        | false =>
          refine iteT (bad _ sX fun hh => ?_)
          obtain ⟨_, z', y', hz', hy', e1, e2⟩ := hh
          rw [key_one hnd hz' hz, key_one hnd hy' hy] at e1 e2
          refine absurd (hbb.mpr ⟨by simp only at e1; omega, ?_⟩) Bool.false_ne_true
          rcases e2 with e2 | e2
          · exact .inl e2
          · exact .inr ⟨e2.1, decide_eq_true e2.2⟩
        | true =>
          obtain ⟨g1, g2⟩ := hbb.mp rfl
          refine iteF ⟨⟨_, _, _, _, rfl⟩, fun j e hj he => ?_, hil, sD⟩
          by_cases hji : j = i
          · subst hji
            rw [hu] at he
            cases he
            refine ⟨hw, z, y, hz, hy, by simp only; omega, ?_⟩
            rcases g2 with g2 | g2
            · exact .inl g2
            · exact .inr ⟨g2.1, of_decide_eq_true g2.2⟩
          · exact hok j e (by omega) he
    · rintro σ H9 ⟨⟨v4, v5, v6, v7, rfl⟩, hok, _, s9⟩
      have : b = true := hb'.mpr (.inr ⟨n, L, rfl, rfl, papOk_of hnd hnr hperm fun i e hi => hok i e (by rw [List.length_map]; have := (List.getElem?_eq_some_iff.mp hi).1; omega) hi⟩)
      rw [this] at q
      exact q _ (sH8.trans s9)
theorem dict_list {K : PySem.W.Frag} {a : Addr} {xs : List V} {k : Nat} {D : Addr} {σ : L2.St} {H1 : Hp} {g : TG} {tk te : TE} {Q : VK} (Pv : Nat → List (Key × V) → L2.St → Hp → Prop) (h0 : Pv 0 [] (σ ++ List.replicate k none) (upd H1 D (.dK [])))
    (hl : ∀ i ys σ H, Pv i ys σ H → SqL K H a xs)
    (hs : ∀ i x ys σ H, xs[i]? = some x → Pv i ys σ H → g x σ H fun σ4 H4 => tk σ4 H4 fun kv H6 => te σ4 H6 fun y H7 => ∃ k : Key, kv = kV k ∧ H7 D = some (.dK ys) ∧ ys.length < sizeLine ∧ Pv (i + 1) (putK ys k y) σ4 (upd H7 D (.dK (putK ys k y))))
    (hd : ∀ ys σ H, Pv xs.length ys σ H → Q (.ref D) H) : DictGoK (Itl K a) D k σ H1 g tYes tk te Q := by
  refine ⟨fun i m ys σ H => m = xs.length - i ∧ i ≤ xs.length ∧ Pv i ys σ H, ⟨xs.length, by simp, Nat.zero_le _, h0⟩, ?_⟩
  rintro i m ys σ H ⟨rfl, hi, p⟩
  have q1 := hl i ys σ H p
  by_cases hlt : i < xs.length
  · refine .inr ⟨⟨xs, xs[i], q1, List.getElem?_eq_getElem hlt⟩, Pv (i + 1), fun ys' σ' H' p' => ⟨xs.length - (i + 1), by omega, rfl, hlt, p'⟩, fun x H' y => ?_⟩
    obtain ⟨rfl, e⟩ := y
    simp only [tYes, ↓reduceIte]
    exact hs i x ys σ _ (e xs q1) p
  · have e : i = xs.length := by omega
    exact .inl ⟨⟨xs, q1, by omega⟩, hd ys σ H (e ▸ p)⟩
def kvs0 (hs : HeadL) : List (Key × V) := hs.map fun h => (.inl h.2.1, optV h.2.2)
theorem kvs0_no {hs : HeadL} {n : Int} (h : ∀ x ∈ hs, x.2.1 ≠ n) : valV (kvs0 hs) (.inl n) = none := by
  unfold valV kvs0
  rw [Option.map_eq_none_iff, List.find?_eq_none]
  intro x hx
  obtain ⟨y, hy, rfl⟩ := List.mem_map.mp hx
  simp only [decide_eq_true_eq]
  intro e; injection e with e; exact h y hy e
theorem kvs0_at : ∀ {hs : HeadL}, Rise hs → ∀ {h : Addr × Int × Option Str}, h ∈ hs → valV (kvs0 hs) (.inl h.2.1) = some (optV h.2.2)
  | [], _, _, hm => by cases hm
  | x :: hs, hr, h, hm => by
    obtain ⟨h1, h2⟩ := List.pairwise_cons.mp hr
    rcases List.mem_cons.mp hm with rfl | hm
    · exact valV_pos rfl
    · have := h1 h hm
      show valV ((.inl x.2.1, optV x.2.2) :: kvs0 hs) _ = _
      rw [valV_neg (by intro e; injection e with e; omega)]
      exact kvs0_at h2 hm
theorem ordC_self : ∀ x : List Nat, ordC x x = 0
  | [] => rfl
  | a :: r => by unfold ordC; rw [if_pos rfl]; exact ordC_self r
theorem ordC_zero : ∀ (x y : List Nat), ordC x y = 0 → x = y
  | [], [], _ => rfl
  | [], _ :: _, h => by unfold ordC at h; omega
  | _ :: _, [], h => by unfold ordC at h; omega
  | a :: r, b :: s, h => by
    unfold ordC at h
    by_cases e : a = b
    · rw [if_pos e] at h
      rw [e, ordC_zero r s h]
    · rw [if_neg e] at h
      split at h <;> omega
/-! ### papers told -/
abbrev PL := List (Addr × Tri)
def prefs (ps : PL) : List V := ps.map fun p => V.ref p.1
def AtP (H : Hp) (ps : PL) : Prop := ∀ p ∈ ps, H p.1 = some (.tup (tV p.2))
def triL (ps : PL) : List Tri := ps.map (·.2)
theorem AtP.mono {H H' : Hp} {ps : PL} (h : AtP H ps) (s : Same H H') : AtP H' ps := fun p hp => s _ _ (h p hp)
theorem dh_t3 {H : Hp} {t : Addr} {u : Tri} (h : H t = some (.tup (tV u))) : DH H (.ref t) (t3D u) := .tup h (.cons (.int _) (.cons (.int _) (.cons (.int _) .nil)))
theorem dh_prefs {H : Hp} : ∀ ps : PL, AtP H ps → DHs H (prefs ps) ((triL ps).map t3D)
  | [], _ => .nil
  | p :: r, h => .cons (dh_t3 (h p (by simp))) (dh_prefs r fun x hx => h x (List.mem_cons_of_mem _ hx))
theorem prefs_len (ps : PL) : (prefs ps).length = (triL ps).length := by unfold prefs triL; rw [List.length_map, List.length_map]
def paperL (E : KE) (e : Str × Int) : List Tri := (E.filter fun u => decide (u.2 ≠ e.2)).map fun u => (u.2, e.2, ((lcp (cds u.1) (cds e.1) : Nat) : Int))
def IsPaper (E : KE) (L : List Tri) : Prop := (E = [] ∧ L = []) ∨ ∃ e ∈ E, (∀ u ∈ E, lexB (kk u) (kk e) = false) ∧ L = paperL E e
theorem paper_len (E : KE) (e : Str × Int) : (paperL E e).length ≤ E.length := by unfold paperL; rw [List.length_map]; exact List.length_filter_le _ _
theorem rows_paper (E : KE) (e : Str × Int) : rowsL (paperL E e) = lessN E e.2 := by
  unfold rowsL paperL lessN rowsE
  rw [List.map_map, List.filter_map]
  rfl
theorem lex_le {a b : Str × Int} (h : lexB (kk b) (kk a) = false) : ordC (cds a.1) (cds b.1) < 0 ∨ (a.1 = b.1 ∧ a.2 ≤ b.2) := by
  by_cases e : a.1 = b.1
  · refine .inr ⟨e, ?_⟩
    unfold kk at h
    rw [lexB_cons, if_pos (by rw [e]), lexB_cons] at h
    by_cases e2 : a.2 = b.2
    · omega
    · rw [if_neg (fun z => e2 (Sum.inl.inj z).symm)] at h
      have := of_decide_eq_false h
      exact Int.not_lt.mp this
  · left
    unfold kk at h
    rw [lexB_cons, if_neg (fun z => e (Sum.inr.inj z).symm)] at h
    have h1 : ¬ (cds b.1 < cds a.1) := of_decide_eq_false h
    have h2 : ¬ ordC (cds b.1) (cds a.1) < 0 := fun z => h1 ((lt_ord _ _).mpr z)
    have h3 := ordC_neg (cds a.1) (cds b.1)
    have h4 : ordC (cds a.1) (cds b.1) ≠ 0 := fun z => e (str_eq (ordC_zero _ _ z))
    omega
theorem paper_ok {E : KE} (hn : (rowsE E).Nodup) {e : Str × Int} (he : e ∈ E) (hm : ∀ u ∈ E, lexB (kk u) (kk e) = false) : PapOk E e.2 (paperL E e) := by
  refine papOk_of hn (List.mem_map_of_mem (f := (·.2)) he) (by rw [rows_paper]) fun i u hu => ?_
  have hu' := List.mem_of_getElem? hu
  unfold paperL at hu'
  obtain ⟨x, hx, rfl⟩ := List.mem_map.mp hu'
  obtain ⟨hx1, hx2⟩ := List.mem_filter.mp hx
  have hne : x.2 ≠ e.2 := by simpa using hx2
  refine ⟨by simp, x.1, e.1, hx1, he, rfl, ?_⟩
  have h3 := ordC_neg (cds e.1) (cds x.1)
  rcases lex_le (hm x hx1) with h | ⟨h, h2⟩
  · exact .inl (by omega)
  · refine .inr ⟨?_, by show e.2 < x.2; omega⟩
    rw [← h, ordC_self]
def spPaper2 (K : PySem.W.Frag) : Sp := fun vs H Q _ => ∃ (a : Addr) (hs : HeadL), vs = [.ref a] ∧ SqL K H a (hrefs hs) ∧ AtH H hs ∧ hs.length ≤ 16 ∧ KeyOk hs ∧ Rise hs ∧
  ∀ (r : Addr) (ps : PL) (H' : Hp), H r = none → H' r = some (.lst (prefs ps)) → AtP H' ps → IsPaper (keyed hs) (triL ps) → Same H H' → Q (.ref r) H'
theorem ok_paper2 (T : Tops K mg) (f_next_of : Df P w K mg base 1 "next_of" ["heads"] (spNext K)) (f_alike : Df P w K mg base 2 "alike" ["one", "other"] spAlike) : Df P w K mg base 3 "paper_of" ["heads"] (spPaper2 K) := by
  refine T.t_paper_of.df sc_paper_of (fun vs H Q E h => ?_) (fun cdv f A outer s H vs Q E hr h => ?_)
  · obtain ⟨a, hs, rfl, _⟩ := h
    rfl
  obtain ⟨a, hs, rfl, hS, hA, hn, hk, hri, q⟩ := h
  refine ⟨_, (@pss_cons _ _ _ _ _ (@ps_set _ _ 1 _ _ _ _ sc_paper_of.nd rfl (Or.inr rfl) (@pe_df _ _ _ _ _ _ _ _ _ _ _ f_next_of hr (@pa_cons _ _ _ _ _ (@pv _ 0 _ _ (by rfl) (Or.inl rfl) (by decide) (by decide)) (@pa_nil _) (by rfl)) (by first | decide | exact Nat.le_refl _ | omega) (by rfl) (by decide) (by rfl) (by rfl)) (by rfl) (by first | exact .inl rfl | exact .inr rfl)) (@pss_cons _ _ _ _ _ (@ps_if _ _ _ _ _ _ _ _ (@pt_cmpR _ _ _ _ _ _ _ _ op_isN (@pv _ 1 _ _ (by rfl) (Or.inr (Or.inl rfl)) (by decide) (by decide)) (@pe_non _ _ _) (nomark _)) (@pss_one _ _ _ (@ps_ret _ _ _ _ (@pe_lst _ _ _ _ (@pa_nil _)))) (@pss_nil _)) (@pss_cons _ _ _ _ _ (@ps_set _ _ 2 _ _ _ _ sc_paper_of.nd rfl (Or.inr rfl) (@pe_kcomp _ _ _ _ _ _ _ _ _ _ _ _ _ _ _ _ cs_11 rfl rfl rfl (@iL _ K _ _ _ (@pv _ 0 _ _ (by rfl) (Or.inl rfl) (by decide) (by decide)) (by rfl)) (fun _ _ _ _ => (@gT _ K _ _ _ 2 _ (@pgs_cons _ _ _ _ _ (@cg _ _ _ _ _ _ _ _ _ _ _ 3 cs_11 rfl (by decide +kernel) (by rfl)) (@pgs_cons _ _ _ _ _ (@cg _ _ _ _ _ _ _ _ _ _ _ 4 cs_11 rfl (by decide +kernel) (by rfl)) (@pgs_nil _) (by rfl)) (by rfl)) (by rfl) (by rfl) (by rfl) (by rfl))) (fun _ _ _ _ => (@pts_nil _)) (fun _ _ _ _ => (@cw _ _ _ _ _ _ _ _ _ _ _ 3 cs_11 rfl (by decide +kernel) (by rfl) (by decide) (by decide))) (fun _ _ _ _ => (@cw _ _ _ _ _ _ _ _ _ _ _ 4 cs_11 rfl (by decide +kernel) (by rfl) (by decide) (by decide))) (by intro _; rfl)) (by rfl) (by first | exact .inl rfl | exact .inr rfl)) (@pss_one _ _ _ (@ps_ret _ _ _ _ (@pe_comp _ _ _ _ _ _ _ _ _ _ _ _ _ _ cs_12 rfl rfl rfl (@iL _ K _ _ _ (@pv _ 0 _ _ (by rfl) (Or.inl rfl) (by decide) (by decide)) (by rfl)) (fun _ _ _ _ => (@gT _ K _ _ _ 2 _ (@pgs_cons _ _ _ _ _ (@cg _ _ _ _ _ _ _ _ _ _ _ 3 cs_12 rfl (by decide +kernel) (by rfl)) (@pgs_cons _ _ _ _ _ (@cg _ _ _ _ _ _ _ _ _ _ _ 4 cs_12 rfl (by decide +kernel) (by rfl)) (@pgs_nil _) (by rfl)) (by rfl)) (by rfl) (by rfl) (by rfl) (by rfl))) (fun _ _ _ _ => (@pts_one _ _ _ (@PW.pt _ _ _ (@pw_and _ _ _ _ _ _ _ (@pt_cmpR _ _ _ _ _ _ _ _ op_notN (@cw _ _ _ _ _ _ _ _ _ _ _ 4 cs_12 rfl (by decide +kernel) (by rfl) (by decide) (by decide)) (@pe_non _ _ _) (nomark _)) (@pw_and1 _ _ _ _ (@pt_cmpR _ _ _ _ _ _ _ _ op_ne (@cw _ _ _ _ _ _ _ _ _ _ _ 3 cs_12 rfl (by decide +kernel) (by rfl) (by decide) (by decide)) (@cv _ _ _ _ _ _ _ _ _ _ _ 1 cs_12 rfl (by decide +kernel) (by rfl) (by decide) (by decide)) (nomark _))))))) (fun _ _ _ _ => (@pe_tup _ _ _ _ _ (@pa_cons _ _ _ _ _ (@cw _ _ _ _ _ _ _ _ _ _ _ 3 cs_12 rfl (by decide +kernel) (by rfl) (by decide) (by decide)) (@pa_cons _ _ _ _ _ (@cv _ _ _ _ _ _ _ _ _ _ _ 1 cs_12 rfl (by decide +kernel) (by rfl) (by decide) (by decide)) (@pa_cons _ _ _ _ _ (@pe_df _ _ _ _ _ _ _ _ _ _ _ f_alike hr (@pa_cons _ _ _ _ _ (@cw _ _ _ _ _ _ _ _ _ _ _ 4 cs_12 rfl (by decide +kernel) (by rfl) (by decide) (by decide)) (@pa_cons _ _ _ _ _ (@pe_ix _ _ _ _ _ _ _ (ixK hr) (@cv _ _ _ _ _ _ _ _ _ _ _ 2 cs_12 rfl (by decide +kernel) (by rfl) (by decide) (by decide)) (@cv _ _ _ _ _ _ _ _ _ _ _ 1 cs_12 rfl (by decide +kernel) (by rfl) (by decide) (by decide)) (fun _ _ => rfl)) (@pa_nil _) (by rfl)) (by rfl)) (by first | decide | exact Nat.le_refl _ | omega) (comp_glob cs_12 rfl (by decide +kernel)) (by decide) (by rfl) (by rfl)) (@pa_nil _) (by rfl)) (by rfl)) (by rfl)))) (by intro _; rfl))))))), ?_⟩
  refine ⟨_, rfl, a, hs, rfl, hS, hA, by omega, fun v H1 hN s1 => ?_⟩
  have hS1 := s1.seq hS
  have hA1 := hA.mono s1
  rcases hN with ⟨hE, rfl⟩ | ⟨e, he, hmin, rfl⟩
  · refine ⟨_, rfl, rfl, _, rfl, iteD rfl ?_⟩
    refine ⟨(by show 0 ≤ sizeLine; decide), fun r hr0 => ?_⟩
    exact q r [] _ (s1.free hr0) upd_same (fun t h => by cases h) (.inl ⟨hE, rfl⟩) (s1.trans (same_new hr0 _))
  · refine ⟨_, rfl, rfl, _, rfl, iteDN (by intro z; cases z) ?_⟩
    refine ⟨_, rfl, a, rfl, ⟨_, hS1⟩, fun D hD => ?_⟩
    refine dict_list (K := K) (a := a) (xs := hrefs hs) (fun i ys σ H2 => (∃ v3 v4 : Option V, σ = [some (.ref a), some (.int e.2), none, v3, v4]) ∧ ys = kvs0 (hs.take i) ∧ i ≤ hs.length ∧ H2 D = some (.dK ys) ∧ Same H1 H2) ?_ (fun _ _ _ _ h => h.2.2.2.2.seq hS1) ?_ ?_
    · exact ⟨⟨none, none, rfl⟩, rfl, Nat.zero_le _, upd_same, same_new hD _⟩
    · rintro i x ys σ H2 hx ⟨⟨v3, v4, rfl⟩, rfl, hi, hD2, s2⟩
      obtain ⟨h, hh, rfl⟩ := href_at hx
      have hil : i < hs.length := (List.getElem?_eq_some_iff.mp hh).1
      have hH := hA1.mono s2 h (List.mem_of_getElem? hh)
      have hno : valV (kvs0 (hs.take i)) (.inl h.2.1) = none := kvs0_no fun y hy => by
        obtain ⟨j, hj⟩ := List.mem_iff_getElem?.mp hy
        rw [List.getElem?_take] at hj
        split at hj
        · obtain ⟨j1, j2⟩ := List.getElem?_eq_some_iff.mp hj
          obtain ⟨i1, i2⟩ := List.getElem?_eq_some_iff.mp hh
          have := List.pairwise_iff_getElem.mp hri j i j1 i1 (by assumption)
          rw [j2, i2] at this
          omega
        · cases hj
      have eput : putK (kvs0 (hs.take i)) (.inl h.2.1) (optV h.2.2) = kvs0 (hs.take (i + 1)) := by
        rw [putK_new _ hno]; unfold kvs0; rw [List.take_add_one, hh, List.map_append]; rfl
      refine ⟨h.1, _, rfl, SqT.of hH, rfl, _, _, rfl, _, _, rfl, rfl, ?_⟩
      refine ⟨_, rfl, _, rfl, .inl h.2.1, rfl, hD2, (by unfold kvs0; rw [List.length_map, List.length_take]; exact small1000 (by omega)), ⟨_, _, rfl⟩, eput, hil, upd_same, fun b o hb => ?_⟩
      rw [upd_ne (ne_of_none hb hD)]; exact s2 b o hb
    rintro ys σ H2 ⟨⟨v3, v4, rfl⟩, rfl, _, hD2, s2⟩
    rw [show (hrefs hs).length = hs.length from List.length_map _, List.take_of_length_le (Nat.le_refl _)] at hD2
    have hS2 := s2.seq hS1
    refine ⟨_, rfl, a, rfl, ⟨_, hS2⟩, fun R hR => ?_⟩
    obtain ⟨h0, hh0, e1, e2⟩ := keyed_mem he
    have hlook : valV (kvs0 hs) (.inl e.2) = some (.str e.1) := by
      have := kvs0_at hri hh0
      rw [e1, e2] at this
      exact this
    have hz0 := (hk h0 hh0 _ e2).1
    refine comp_listF (K := K) (a := a) (xs := hrefs hs) (fun i zs σ H3 => (∃ v3 v4 : Option V, σ = [some (.ref a), some (.int e.2), some (.ref D), v3, v4]) ∧ (∃ ps : PL, zs = prefs ps ∧ AtP H3 ps ∧ triL ps = paperL (keyed (hs.take i)) e) ∧ i ≤ hs.length ∧ H3 R = some (.lst zs) ∧ Same H2 H3) ?_ (fun _ _ _ _ h => h.2.2.2.2.seq hS2) ?_ ?_
    · exact ⟨⟨none, none, rfl⟩, ⟨[], rfl, (fun t h => by cases h), rfl⟩, Nat.zero_le _, upd_same, same_new hR _⟩
    · rintro i x zs σ H3 hx ⟨⟨v3, v4, rfl⟩, ⟨ps, rfl, hP, hL⟩, hi, hR3, s3⟩
      obtain ⟨h, hh, rfl⟩ := href_at hx
      have hil : i < hs.length := (List.getElem?_eq_some_iff.mp hh).1
      have hH := (hA1.mono s2).mono s3 h (List.mem_of_getElem? hh)
      have kt := keyed_take hs i hh
      have pl := paper_len (keyed (hs.take i)) e
      have kl := keyed_len (hs.take i)
      have pfl := prefs_len ps
      rw [List.length_take] at kl
      rw [hL] at pfl
      refine ⟨h.1, _, rfl, SqT.of hH, rfl, _, _, rfl, _, _, rfl, rfl, ?_⟩
      cases hz : h.2.2 with
      | none =>
        rw [hz, List.append_nil] at kt
        refine ⟨_, rfl, rfl, _, rfl, iteNS rfl (iteF ⟨⟨_, _, rfl⟩, ⟨ps, rfl, hP, by rw [kt]; exact hL⟩, hil, hR3, s3⟩)⟩
      | some z =>
        rw [hz] at kt
        refine ⟨_, rfl, rfl, _, rfl, iteNN (by intro e; cases e) ?_⟩
        refine ⟨_, rfl, _, rfl, rfl, _, rfl, ?_⟩
        by_cases hrow : V.int h.2.1 = V.int e.2
        · have hrow' : h.2.1 = e.2 := by injection hrow
          refine iteNS hrow ⟨⟨_, _, rfl⟩, ⟨ps, rfl, hP, ?_⟩, hil, hR3, s3⟩
          rw [kt, hL]
          unfold paperL
          rw [List.filter_append, List.map_append, List.filter_cons_of_neg (by simpa using hrow')]
          simp
        · have hrow' : h.2.1 ≠ e.2 := fun z => hrow (by rw [z])
          have hzl := (hk h (List.mem_of_getElem? hh) _ hz).1
          refine iteNN hrow ⟨_, rfl, _, rfl, _, rfl, _, rfl, _, rfl, D, _, .inl e.2, _, rfl, rfl, s3 _ _ hD2, hlook, z, e.1, rfl, by omega, by omega, (by show 3 ≤ sizeLine; decide), fun m hm => ?_⟩
          have sn := same_new hm (.tup [.int h.2.1, .int e.2, .int ((lcp (cds z) (cds e.1) : Nat) : Int)])
          have hR4 := sn _ _ hR3
          have nRm : R ≠ m := ne_of_none hR3 hm
          refine ⟨hR4, small1000 (by omega), ⟨_, _, rfl⟩, ⟨ps ++ [(m, (h.2.1, e.2, ((lcp (cds z) (cds e.1) : Nat) : Int)))], by unfold prefs; rw [List.map_append]; rfl, fun p hp => ?_, ?_⟩, hil, upd_same, fun b o hb => ?_⟩
          · rcases List.mem_append.mp hp with hp | hp
            · exact tup_keep hR4 _ _ _ (sn _ _ (hP p hp))
            · rw [List.mem_singleton.mp hp, upd_ne nRm.symm]; exact upd_same
          · rw [kt]
            unfold paperL triL
            rw [List.filter_append, List.map_append, List.map_append, List.filter_cons_of_pos (by simpa using hrow')]
            unfold triL paperL at hL
            rw [hL]; rfl
          · rw [upd_ne (ne_of_none hb hR)]; exact sn _ _ (s3 b o hb)
    rintro zs σ H3 ⟨⟨v3, v4, rfl⟩, ⟨ps, rfl, hP, hL⟩, _, hR3, s3⟩
    rw [show (hrefs hs).length = hs.length from List.length_map _, List.take_of_length_le (Nat.le_refl _)] at hL
    exact q R ps H3 ((s1.trans s2).free hR) hR3 hP (.inr ⟨e, he, hmin, hL⟩) ((s1.trans s2).trans s3)
def spLaw (K : PySem.W.Frag) : Sp := fun vs H Q _ => ∃ (a : Addr) (ns : List Int), vs = [.ref a] ∧ SqL K H a (ns.map V.int) ∧ ns.length ≤ 63 ∧ ∀ H', Q (.bl true) H'
theorem mk_at {H : Hp} {ts : TupL} {E : List (Str × Int)} (hat : AtT H ts) (hE : ts.map (·.2) = E.map kk) {i : Nat} {t : Addr × List Key} (ht : ts[i]? = some t) : ∃ e, E[i]? = some e ∧ H t.1 = some (.tup [.str e.1, .int e.2]) := by
  have hl : ts.length = E.length := by have := congrArg List.length hE; simpa using this
  have hi := (List.getElem?_eq_some_iff.mp ht).1
  have hL : E[i]? = some (E[i]'(by omega)) := List.getElem?_eq_getElem _
  refine ⟨_, hL, ?_⟩
  have e := congrArg (fun z => z[i]?) hE
  simp only [List.getElem?_map, ht, hL, Option.map_some] at e
  have e := Option.some.inj e
  have := hat t (List.mem_of_getElem? ht)
  rw [e] at this
  exact this
theorem refs_at {ts : TupL} {i : Nat} {x : V} (h : (refs ts)[i]? = some x) : ∃ t, ts[i]? = some t ∧ x = .ref t.1 := by
  unfold refs at h
  rw [List.getElem?_map] at h
  cases ht : ts[i]? with
  | none => rw [ht] at h; cases h
  | some t => rw [ht] at h; cases h; exact ⟨t, rfl, rfl⟩
theorem refs_tail (ts : TupL) : (refs ts).tail = refs ts.tail := by unfold refs; rw [List.map_tail]
theorem lost_of {E : KE} {a b : Str × Int} (ha : a ∈ E) (hb : b ∈ E) (h : lexB (kk b) (kk a) = false) (hne : b.2 ≠ a.2) : Lost E (b.2, a.2, ((lcp (cds b.1) (cds a.1) : Nat) : Int)) := by
  refine ⟨b.1, a.1, hb, ha, rfl, ?_⟩
  have h3 := ordC_neg (cds a.1) (cds b.1)
  rcases lex_le h with h | ⟨h, h2⟩
  · exact .inl (by omega)
  · refine .inr ⟨?_, by show a.2 < b.2; omega⟩
    rw [← h, ordC_self]
def linkE (a b : Str × Int) : Tri := (b.2, a.2, ((lcp (cds b.1) (cds a.1) : Nat) : Int))
theorem less_tail {E : KE} {e : Str × Int} {tl : KE} (hp : (e :: tl).Perm E) (hn : (rowsE E).Nodup) : (tl.map (·.2)).Perm (lessN E e.2) := by
  have h1 : ((e :: tl).map (·.2)).Perm (rowsE E) := hp.map _
  have h2 : ((e :: tl).map (·.2)).Nodup := h1.nodup_iff.mpr hn
  have h3 := h1.filter (fun r => decide (r ≠ e.2))
  rw [List.map_cons] at h2 h3
  obtain ⟨n1, n2⟩ := List.nodup_cons.mp h2
  rw [List.filter_cons_of_neg (by simp), List.filter_eq_self.mpr fun a ha => by
    have : a ≠ e.2 := fun z => n1 (z ▸ ha)
    simpa using this] at h3
  exact h3
theorem star_ok {E : KE} {e : Str × Int} {tl : KE} (hp : (e :: tl).Perm E) (hn : (rowsE E).Nodup) (ho : Ord (e :: tl)) {L : List Tri} (hL : L.Perm (tl.map (linkE e))) : PapOk E e.2 L := by
  have he : e ∈ E := hp.mem_iff.mp (by simp)
  have hrows : (rowsL L).Perm (tl.map (·.2)) := by
    have := hL.map (fun u : Tri => u.1)
    rw [List.map_map] at this
    exact this
  have h2 : ((e :: tl).map (·.2)).Nodup := (hp.map _).nodup_iff.mpr hn
  rw [List.map_cons] at h2
  obtain ⟨n1, n2⟩ := List.nodup_cons.mp h2
  refine papOk_of hn (List.mem_map_of_mem (f := (·.2)) he) (hrows.trans (less_tail hp hn)) fun i u hu => ?_
  obtain ⟨b, hb, rfl⟩ := List.mem_map.mp (hL.mem_iff.mp (List.mem_of_getElem? hu))
  refine ⟨by show e.2 ∈ _; simp, lost_of he (hp.mem_iff.mp (List.mem_cons_of_mem _ hb)) ((List.pairwise_cons.mp ho).1 b hb) fun z => n1 (z ▸ List.mem_map_of_mem (f := (·.2)) hb)⟩
def chainL (E : KE) : List Tri := (E.zip E.tail).map fun q => linkE q.1 q.2
theorem chain_rows : ∀ E : KE, rowsL (chainL E) = E.tail.map (·.2)
  | [] => rfl
  | [_] => rfl
  | a :: b :: r => by
    have := chain_rows (b :: r)
    unfold rowsL chainL at this ⊢
    simp only [List.tail_cons, List.zip_cons_cons, List.map_cons] at this ⊢
    rw [this]; rfl
theorem chain_ok {E : KE} {e : Str × Int} {tl : KE} (hp : (e :: tl).Perm E) (hn : (rowsE E).Nodup) (ho : Ord (e :: tl)) : PapOk E e.2 (chainL (e :: tl)) := by
  have he : e ∈ E := hp.mem_iff.mp (by simp)
  have h2 : ((e :: tl).map (·.2)).Nodup := (hp.map _).nodup_iff.mpr hn
  refine papOk_of hn (List.mem_map_of_mem (f := (·.2)) he) (by rw [chain_rows]; exact less_tail hp hn) fun i u hu => ?_
  unfold chainL at hu
  rw [List.getElem?_map] at hu
  cases hz : ((e :: tl).zip (e :: tl).tail)[i]? with
  | none => rw [hz] at hu; cases hu
  | some q =>
  rw [hz] at hu
  cases hu
  obtain ⟨z1, z2⟩ := List.getElem?_zip_eq_some.mp hz
  rw [List.getElem?_tail] at z2
  obtain ⟨i1, i2⟩ := List.getElem?_eq_some_iff.mp z1
  obtain ⟨j1, j2⟩ := List.getElem?_eq_some_iff.mp z2
  have hlex := List.pairwise_iff_getElem.mp ho i (i + 1) i1 j1 (by omega)
  rw [i2, j2] at hlex
  have hne := List.pairwise_iff_getElem.mp h2 i (i + 1) (by rw [List.length_map]; exact i1) (by rw [List.length_map]; exact j1) (by omega)
  rw [List.getElem_map, List.getElem_map, i2, j2] at hne
  refine ⟨?_, lost_of (hp.mem_iff.mp (List.mem_of_getElem? z1)) (hp.mem_iff.mp (List.mem_of_getElem? z2)) hlex fun z => hne z.symm⟩
  show q.1.2 ∈ _
  unfold chainL
  cases i with
  | zero =>
    simp only [List.getElem?_cons_zero, Option.some.injEq] at z1
    rw [← z1]; simp
  | succ j =>
    refine List.mem_cons_of_mem _ ?_
    have : rowsL (((((e :: tl).zip (e :: tl).tail)).map fun q => linkE q.1 q.2).take (j + 1)) = (tl.map (·.2)).take (j + 1) := by
      have := chain_rows (e :: tl)
      unfold rowsL chainL at this
      unfold rowsL
      rw [List.map_take, this]; rfl
    rw [this]
    rw [List.mem_iff_getElem?]
    refine ⟨j, ?_⟩
    rw [List.getElem?_take, if_pos (by omega), List.getElem?_map]
    have : tl[j]? = some q.1 := by simpa using z1
    rw [this]; rfl
theorem shown_other {E : KE} (hn : (rowsE E).Nodup) {n r : Int} {L : List Tri} (h : PapOk E n L) (hr : r ≠ n) : ¬ Shown E (.int r) (.list (L.map t3D)) := by
  rintro (⟨z, _⟩ | ⟨r', M, z, e, h2⟩)
  · cases z
  · injection z with z
    subst z
    injection e with e
    rw [← t3Ds_inj e] at h2
    have h3 : r ∈ lessN E n := List.mem_filter.mpr ⟨h2.1, by simpa using hr⟩
    have h4 := (papOk_perm hn h).mem_iff.mpr h3
    have h5 := List.mem_filter.mp ((papOk_perm hn h2).mem_iff.mp h4)
    simp at h5
theorem But.tup {p : Addr} {H H' : Hp} {c : Int} (L : Left H p c) (B : But p H H') : ∀ a xs, H a = some (.tup xs) → H' a = some (.tup xs) := fun a xs h => by
  obtain ⟨x, y, hp, _⟩ := L
  exact B _ _ h (ne_of h hp fun z => nomatch z)
def PapL (H : Hp) (r : Addr) (E : KE) (n : Int) : Prop := ∃ ps : PL, H r = some (.lst (prefs ps)) ∧ AtP H ps ∧ PapOk E n (triL ps)
theorem link_comm (a b : Str × Int) : ((lcp (cds a.1) (cds b.1) : Nat) : Int) = ((lcp (cds b.1) (cds a.1) : Nat) : Int) := by rw [lcp_comm]
def spPapers (K : PySem.W.Frag) : Sp := fun vs H Q _ => ∃ (a : Addr) (hs : HeadL) (e : Str × Int), vs = [.ref a] ∧ SqL K H a (hrefs hs) ∧ AtH H hs ∧ hs.length ≤ 16 ∧ KeyOk hs ∧ Rise hs ∧ e ∈ keyed hs ∧ (∀ u ∈ keyed hs, lexB (kk u) (kk e) = false) ∧
  ∀ (r r1 r2 r3 : Addr) (H' : Hp), H' r = some (.lst [.ref r1, .ref r2, .ref r3]) → PapL H' r1 (keyed hs) e.2 → PapL H' r2 (keyed hs) e.2 → PapL H' r3 (keyed hs) e.2 → Same H H' → Q (.ref r) H'
theorem ok_papers (T : Tops K mg) (f_l_alike : Df P w K mg base 1 "_law_alike" ["_law_one", "_law_other"] spAlike) (f_paper_of : Df P w K mg base 3 "paper_of" ["heads"] (spPaper2 K)) : Df P w K mg base 4 "_law_papers" ["_law_heads_here"] (spPapers K) := by
  refine T.t_l_papers.df sc_l_papers (fun vs H Q E h => ?_) (fun cdv f A outer s H vs Q E hr h => ?_)
  · obtain ⟨a, hs, e, rfl, _⟩ := h
    rfl
  obtain ⟨a, hs, e, rfl, hS, hA, hn, hk, hri, he, hmin, q⟩ := h
  refine ⟨_, (@pss_cons _ _ _ _ _ (@ps_set _ _ 1 _ _ _ _ sc_l_papers.nd rfl (Or.inr rfl) (@pe_callB _ _ _ _ _ _ _ _ _ (srtT K) (by rfl) T.b.n_sorted boot_sorted (@pa_cons _ _ _ _ _ (@pe_comp _ _ _ _ _ _ _ _ _ _ _ _ _ _ cs_13 rfl rfl rfl (@iL _ K _ _ _ (@pv _ 0 _ _ (by rfl) (Or.inl rfl) (by decide) (by decide)) (by rfl)) (fun _ _ _ _ => (@gT _ K _ _ _ 2 _ (@pgs_cons _ _ _ _ _ (@cg _ _ _ _ _ _ _ _ _ _ _ 6 cs_13 rfl (by decide +kernel) (by rfl)) (@pgs_cons _ _ _ _ _ (@cg _ _ _ _ _ _ _ _ _ _ _ 7 cs_13 rfl (by decide +kernel) (by rfl)) (@pgs_nil _) (by rfl)) (by rfl)) (by rfl) (by rfl) (by rfl) (by rfl))) (fun _ _ _ _ => (@pts_one _ _ _ (@pt_cmpR _ _ _ _ _ _ _ _ op_notN (@cw _ _ _ _ _ _ _ _ _ _ _ 7 cs_13 rfl (by decide +kernel) (by rfl) (by decide) (by decide)) (@pe_non _ _ _) (nomark _)))) (fun _ _ _ _ => (@pe_tup _ _ _ _ _ (@pa_cons _ _ _ _ _ (@cw _ _ _ _ _ _ _ _ _ _ _ 7 cs_13 rfl (by decide +kernel) (by rfl) (by decide) (by decide)) (@pa_cons _ _ _ _ _ (@cw _ _ _ _ _ _ _ _ _ _ _ 6 cs_13 rfl (by decide +kernel) (by rfl) (by decide) (by decide)) (@pa_nil _) (by rfl)) (by rfl)))) (by intro _; rfl)) (@pa_nil _) (by rfl)) (by decide) (by decide) (by rfl) (by rfl)) (by rfl) (by first | exact .inl rfl | exact .inr rfl)) (@pss_cons _ _ _ _ _ (@ps_set _ _ 2 _ _ _ _ sc_l_papers.nd rfl (Or.inl rfl) (@pe_lst _ _ _ _ (@pa_nil _)) (by rfl) (by first | exact .inl rfl | exact .inr rfl)) (@pss_cons _ _ _ _ _ (@ps_for _ _ _ _ _ _ _ _ PassesOwn.never rfl (@iZ _ K _ _ _ _ _ _ _ _ T.b.n_zip (@pa_cons _ _ _ _ _ (@pv _ 1 _ _ (by rfl) (Or.inr (Or.inl rfl)) (by decide) (by decide)) (@pa_cons _ _ _ _ _ (@pe_slice _ _ _ _ _ _ _ _ _ _ (slL K) (@pv _ 1 _ _ (by rfl) (Or.inr (Or.inl rfl)) (by decide) (by decide)) (@po_some _ _ _ (@pe_int _ _ _ _)) (@po_none _)) (@pa_nil _) (by rfl)) (by rfl)) (by rfl) (by rfl) (by rfl) (by rfl)) (@gT _ K _ _ _ 2 _ (@pgs_cons _ _ _ _ _ (@pg_name _ _ 3 _ sc_l_papers.nd rfl (Or.inl rfl) (by first | exact .inl rfl | exact .inr rfl)) (@pgs_cons _ _ _ _ _ (@pg_name _ _ 4 _ sc_l_papers.nd rfl (Or.inl rfl) (by first | exact .inl rfl | exact .inr rfl)) (@pgs_nil _) (by rfl)) (by rfl)) (by rfl) (by rfl) (by rfl) (by rfl)) (@pss_one _ _ _ (@ps_expr _ _ _ _ (@pe_bm _ _ _ _ _ _ _ _ _ _ _ _ PySem.F.plainAttrs_list PySem.F.slot_list_append PySem.F.type_list_append mt_append (@pv _ 2 _ _ (by rfl) (Or.inl rfl) (by decide) (by decide)) (@pa_cons _ _ _ _ _ (@pe_tup _ _ _ _ _ (@pa_cons _ _ _ _ _ (@pe_ix _ _ _ _ _ _ _ (ixT K) (@pv _ 4 _ _ (by rfl) (Or.inl rfl) (by decide) (by decide)) (@pe_int _ _ _ _) (fun _ _ => rfl)) (@pa_cons _ _ _ _ _ (@pe_ix _ _ _ _ _ _ _ (ixT K) (@pv _ 3 _ _ (by rfl) (Or.inl rfl) (by decide) (by decide)) (@pe_int _ _ _ _) (fun _ _ => rfl)) (@pa_cons _ _ _ _ _ (@pe_df _ _ _ _ _ _ _ _ _ _ _ f_l_alike hr (@pa_cons _ _ _ _ _ (@pe_ix _ _ _ _ _ _ _ (ixT K) (@pv _ 3 _ _ (by rfl) (Or.inl rfl) (by decide) (by decide)) (@pe_int _ _ _ _) (fun _ _ => rfl)) (@pa_cons _ _ _ _ _ (@pe_ix _ _ _ _ _ _ _ (ixT K) (@pv _ 4 _ _ (by rfl) (Or.inl rfl) (by decide) (by decide)) (@pe_int _ _ _ _) (fun _ _ => rfl)) (@pa_nil _) (by rfl)) (by rfl)) (by first | decide | exact Nat.le_refl _ | omega) (by rfl) (by decide) (by rfl) (by rfl)) (@pa_nil _) (by rfl)) (by rfl)) (by rfl))) (@pa_nil _) (by rfl)) (by rfl) (by rfl) (by rfl) (by rfl) (by rfl)) (by rfl))) (by intro _; rfl)) (@pss_cons _ _ _ _ _ (@ps_setComp _ _ _ _ _ 5 _ _ _ _ _ _ _ _ _ _ _ _ sc_l_papers.nd rfl (Or.inl rfl) cs_14 rfl rfl rfl (@iL _ K _ _ _ (@pe_slice _ _ _ _ _ _ _ _ _ _ (slL K) (@pv _ 1 _ _ (by rfl) (Or.inr (Or.inl rfl)) (by decide) (by decide)) (@po_some _ _ _ (@pe_int _ _ _ _)) (@po_none _)) (by rfl)) (fun _ _ _ _ => (@gT _ K _ _ _ 2 _ (@pgs_cons _ _ _ _ _ (@cg _ _ _ _ _ _ _ _ _ _ _ 6 cs_14 rfl (by decide +kernel) (by rfl)) (@pgs_cons _ _ _ _ _ (@cg _ _ _ _ _ _ _ _ _ _ _ 7 cs_14 rfl (by decide +kernel) (by rfl)) (@pgs_nil _) (by rfl)) (by rfl)) (by rfl) (by rfl) (by rfl) (by rfl))) (fun _ _ _ _ => (@pts_nil _)) (fun _ _ _ _ => (@pe_tup _ _ _ _ _ (@pa_cons _ _ _ _ _ (@cw _ _ _ _ _ _ _ _ _ _ _ 7 cs_14 rfl (by decide +kernel) (by rfl) (by decide) (by decide)) (@pa_cons _ _ _ _ _ (@pe_ix _ _ _ _ _ _ _ (ixT K) (@pe_ix _ _ _ _ _ _ _ (ixL K) (@cv _ _ _ _ _ _ _ _ _ _ _ 1 cs_14 rfl (by decide +kernel) (by rfl) (by decide) (by decide)) (@pe_int _ _ _ _) (fun _ _ => rfl)) (@pe_int _ _ _ _) (fun _ _ => rfl)) (@pa_cons _ _ _ _ _ (@pe_df _ _ _ _ _ _ _ _ _ _ _ f_l_alike hr (@pa_cons _ _ _ _ _ (@cw _ _ _ _ _ _ _ _ _ _ _ 6 cs_14 rfl (by decide +kernel) (by rfl) (by decide) (by decide)) (@pa_cons _ _ _ _ _ (@pe_ix _ _ _ _ _ _ _ (ixT K) (@pe_ix _ _ _ _ _ _ _ (ixL K) (@cv _ _ _ _ _ _ _ _ _ _ _ 1 cs_14 rfl (by decide +kernel) (by rfl) (by decide) (by decide)) (@pe_int _ _ _ _) (fun _ _ => rfl)) (@pe_int _ _ _ _) (fun _ _ => rfl)) (@pa_nil _) (by rfl)) (by rfl)) (by first | decide | exact Nat.le_refl _ | omega) (comp_glob cs_14 rfl (by decide +kernel)) (by decide) (by rfl) (by rfl)) (@pa_nil _) (by rfl)) (by rfl)) (by rfl)))) (by rfl) (by intro _; rfl) (by first | exact .inl rfl | exact .inr rfl)) (@pss_one _ _ _ (@ps_ret _ _ _ _ (@pe_lst _ _ _ _ (@pa_cons _ _ _ _ _ (@pe_df _ _ _ _ _ _ _ _ _ _ _ f_paper_of hr (@pa_cons _ _ _ _ _ (@pv _ 0 _ _ (by rfl) (Or.inl rfl) (by decide) (by decide)) (@pa_nil _) (by rfl)) (by first | decide | exact Nat.le_refl _ | omega) (by rfl) (by decide) (by rfl) (by rfl)) (@pa_cons _ _ _ _ _ (@pv _ 2 _ _ (by rfl) (Or.inl rfl) (by decide) (by decide)) (@pa_cons _ _ _ _ _ (@pv _ 5 _ _ (by rfl) (Or.inl rfl) (by decide) (by decide)) (@pa_nil _) (by rfl)) (by rfl)) (by rfl))))))))), ?_⟩
  refine ⟨_, rfl, a, rfl, ⟨_, hS⟩, fun B hB => ?_⟩
  refine comp_lF (K := K) (a := a) (xs := hrefs hs) (fun i zs σ H2 => (∃ v2 v3 : Option V, σ = [some (.ref a), none, none, none, none, none, v2, v3]) ∧ Made (keyed (hs.take i)) zs H H2 ∧ zs.length ≤ i ∧ i ≤ hs.length ∧ H2 B = some (.lst zs) ∧ Same H H2) ?_ (fun _ _ _ _ h => h.2.2.2.2.2.seq hS) ?_ ?_
  · exact ⟨⟨none, none, rfl⟩, ⟨[], rfl, fun t h => (by cases h), rfl, fun t h => (by cases h)⟩, Nat.le_refl _, Nat.zero_le _, upd_same, same_new hB _⟩
  · rintro i x zs σ H2 hx ⟨⟨v2, v3, rfl⟩, m, hzl, hi, hB2, s2⟩
    obtain ⟨h, hh, rfl⟩ := href_at hx
    have hil : i < hs.length := (List.getElem?_eq_some_iff.mp hh).1
    have hH := hA.mono s2 h (List.mem_of_getElem? hh)
    refine ⟨h.1, _, rfl, SqT.of hH, rfl, _, _, rfl, _, _, rfl, rfl, ?_⟩
    have kt := keyed_take hs i hh
    cases hz : h.2.2 with
    | none =>
      rw [hz] at kt
      refine ⟨_, rfl, rfl, _, rfl, iteNS rfl ⟨⟨_, _, rfl⟩, ?_, by omega, hil, hB2, s2⟩⟩
      rw [kt, List.append_nil]; exact m
    | some z =>
      rw [hz] at kt
      refine ⟨_, rfl, rfl, _, rfl, iteNN (by intro e; cases e) ?_⟩
      refine ⟨_, rfl, _, rfl, (by show 2 ≤ sizeLine; decide), fun n hn0 => ?_⟩
      have sn := same_new hn0 (.tup [.str z, .int h.2.1])
      have hB3 := sn _ _ hB2
      have nBn : B ≠ n := ne_of_none hB2 hn0
      refine ⟨hB3, small1000 (by omega), ⟨_, _, rfl⟩, ?_, by rw [List.length_append, List.length_singleton]; omega, hil, upd_same, fun b o hb => ?_⟩
      · rw [kt]
        refine made_add m (fun b xs hb => ?_) ?_ (s2.free hn0)
        · exact tup_keep hB3 _ b xs (sn _ _ hb)
        · rw [upd_ne nBn.symm]; exact upd_same
      · rw [upd_ne (ne_of_none hb hB)]; exact sn _ _ (s2 b o hb)
  rintro zs σ H2 ⟨⟨v2, v3, rfl⟩, ⟨ts, rfl, hat, hE, hfr⟩, hzl, hi, hB2, s2⟩
  rw [show (hrefs hs).length = hs.length from List.length_map _, List.take_of_length_le (Nat.le_refl _)] at hE
  have hzl' : ts.length ≤ hs.length := by
    have := congrArg List.length hE
    rw [List.length_map, List.length_map] at this
    have := keyed_len hs
    omega
  refine ⟨B, ts, [false, true], rfl, SqL.of hB2, hat, by simp, Made.shape hE, by omega, fun l ts' hl pm pw => ?_⟩
  obtain ⟨E', pE, eE, oE⟩ := perm_pairs hE pm pw
  have s3 := s2.trans (same_new hl (.lst (refs ts')))
  have hl3 : (upd H2 l (.lst (refs ts'))) l = some (.lst (refs ts')) := upd_same
  have hat3 : AtT (upd H2 l (.lst (refs ts'))) ts' := fun t ht => same_new hl _ _ _ (hat t (pm.mem_iff.mp ht))
  generalize upd H2 l (.lst (refs ts')) = H3 at s3 hl3 hat3 ⊢
  have htl' : ts'.length ≤ 16 := by rw [pm.length_eq]; omega
  have hEl : ts'.length = E'.length := by have := congrArg List.length eE; simpa using this
  have hEk : ∀ e ∈ E', e.1.length ≤ 28 := fun e he => (keyed_ok hk e (pE.mem_iff.mp he)).1
  have hnd : (rowsE (keyed hs)).Nodup := keyed_rows hs hri
  obtain ⟨tl, rfl⟩ : ∃ tl, E' = e :: tl := by
    cases hE' : E' with
    | nil => rw [hE'] at pE; have := pE.mem_iff.mpr he; cases this
    | cons x r =>
      rw [hE'] at pE oE
      have hx : x ∈ keyed hs := pE.mem_iff.mp (by simp)
      rcases List.mem_cons.mp (pE.mem_iff.mpr he) with h | h
      · exact ⟨r, by rw [h]⟩
      · have h1 := (List.pairwise_cons.mp oE).1 e h
        exact ⟨r, by rw [kk_inj (lexB_total _ _ h1 (hmin x hx))]⟩
  refine ⟨(by show 0 ≤ sizeLine; decide), fun r hr0 => ?_⟩
  have s4 := same_new hr0 (.lst [])
  have hr4 : (upd H3 r (.lst [])) r = some (.lst []) := upd_same
  generalize upd H3 r (.lst []) = H4 at s4 hr4 ⊢
  have hl4 := s4 _ _ hl3
  refine ⟨_, rfl, _, rfl, _, rfl, l, _, rfl, SqL.of hl4, fun sl hsl => ?_⟩
  rw [cutV_tail, refs_tail]
  have s5 := same_new hsl (.lst (refs ts'.tail))
  have hsl5 : (upd H4 sl (.lst (refs ts'.tail))) sl = some (.lst (refs ts'.tail)) := upd_same
  generalize upd H4 sl (.lst (refs ts'.tail)) = H5 at s5 hsl5 ⊢
  have hr5 := s5 _ _ hr4
  have hl5 := s5 _ _ hl4
  have hat5 : AtT H5 ts' := AtT.mono hat3 (s4.trans s5)
  have hrH : H r = none := s3.free hr0
  have nlr : l ≠ r := ne_of_none hl3 hr0
  have nsr : sl ≠ r := (ne_of_none hr4 hsl).symm
  refine ⟨.l l, .l sl, _, _, rfl, SqL.of hl5, SqL.of hsl5, ?_⟩
  refine for_zip (K := K) (xs := refs ts') (ys := refs ts'.tail) (fun i σ H6 => (∃ v3 v4 v5 : Option V, σ = [some (.ref a), some (.ref l), some (.ref r), v3, v4, v5]) ∧ (∃ pc : PL, H6 r = some (.lst (prefs pc)) ∧ AtP H6 pc ∧ triL pc = (chainL (e :: tl)).take i) ∧ i ≤ tl.length ∧ (∀ b o, H5 b = some o → b ≠ r → H6 b = some o)) ⟨⟨none, none, none, rfl⟩, ⟨[], hr5, (fun _ h => by cases h), rfl⟩, Nat.zero_le _, fun b o hb _ => hb⟩ (fun _ _ _ ⟨_, _, _, k6⟩ => ⟨SqL.of (k6 _ _ hl5 nlr), SqL.of (k6 _ _ hsl5 nsr)⟩) ?_ ?_
  · rintro i x y σ H6 p hx hy ⟨⟨v3, v4, v5, rfl⟩, ⟨pc, hr6, hP, hT⟩, hi6, k6⟩ hp
    obtain ⟨t, ht, rfl⟩ := refs_at hx
    obtain ⟨u, hu, rfl⟩ := refs_at hy
    have hut : ts'[i + 1]? = some u := by rw [List.getElem?_tail] at hu; exact hu
    obtain ⟨e1, he1, hte⟩ := mk_at hat5 eE ht
    obtain ⟨g, hg, hug⟩ := mk_at hat5 eE hut
    have hil : i < tl.length := by
      have := (List.getElem?_eq_some_iff.mp hg).1
      rw [List.length_cons] at this
      omega
    have tupr : ∀ b xs, H5 b = some (.tup xs) → H6 b = some (.tup xs) := fun b xs hb => k6 b _ hb (ne_of hb hr5 fun z => nomatch z)
    have sp := same_new hp (.tup [.ref t.1, .ref u.1])
    have hp7 : (upd H6 p (.tup [.ref t.1, .ref u.1])) p = some (.tup [.ref t.1, .ref u.1]) := upd_same
    have npr : r ≠ p := ne_of_none hr6 hp
    generalize upd H6 p (.tup [.ref t.1, .ref u.1]) = H7 at sp hp7 ⊢
    have ht7 := sp _ _ (tupr _ _ hte)
    have hu7 := sp _ _ (tupr _ _ hug)
    have hr7 := sp _ _ hr6
    have h1 := hEk e1 (List.mem_of_getElem? he1)
    have h2 := hEk g (List.mem_of_getElem? hg)
    have hpl : pc.length = i := by
      have := congrArg List.length hT
      unfold triL chainL at this
      rw [List.length_map, List.length_take, List.length_map, List.length_zip] at this
      simp only [List.tail_cons, List.length_cons] at this
      omega
    have hps : (prefs pc).length = pc.length := by unfold prefs; rw [List.length_map]
    rw [List.length_cons] at hEl
    refine ⟨p, _, rfl, SqT.of hp7, rfl, _, _, rfl, _, _, rfl, rfl, ?_⟩
    refine ⟨_, rfl, .inl ⟨rfl, _, SqL.of hr7⟩, _, rfl, u.1, _, _, _, rfl, rfl, SqT.of hu7, rfl, _, rfl, t.1, _, _, _, rfl, rfl, SqT.of ht7, rfl, _, rfl, t.1, _, _, _, rfl, rfl, SqT.of ht7, rfl, _, rfl, u.1, _, _, _, rfl, rfl, SqT.of hu7, rfl, e1.1, g.1, rfl, by omega, by omega, (by show 3 ≤ sizeLine; decide), fun m hm => ?_⟩
    rw [link_comm e1 g]
    have sm := same_new hm (.tup (tV (linkE e1 g)))
    have hr8 := sm _ _ hr7
    have nrm : r ≠ m := ne_of_none hr7 hm
    refine ⟨r, _, _, rfl, rfl, hr8, (by rw [hps]; exact small1000 (by omega)), ⟨_, _, _, rfl⟩, ⟨pc ++ [(m, linkE e1 g)], ?_, fun x hx => ?_, ?_⟩, by omega, fun b o hb nb => ?_⟩
    · rw [upd_same]; unfold prefs; rw [List.map_append]; rfl
    · rcases List.mem_append.mp hx with hx | hx
      · exact tup_keep hr8 _ _ _ (sm _ _ (sp _ _ (hP x hx)))
      · rw [List.mem_singleton.mp hx, upd_ne nrm.symm]; exact upd_same
    · have hz : (chainL (e :: tl))[i]? = some (linkE e1 g) := by
        unfold chainL
        rw [List.getElem?_map]
        have : ((e :: tl).zip (e :: tl).tail)[i]? = some (e1, g) := List.getElem?_zip_eq_some.mpr ⟨he1, by rw [List.getElem?_tail]; exact hg⟩
        rw [this]; rfl
      rw [List.take_add_one, hz]
      unfold triL at hT ⊢
      rw [List.map_append, hT]; rfl
    · rw [upd_ne nb]; exact sm _ _ (sp _ _ (k6 b o hb nb))
  rintro σ H6 ⟨⟨v3, v4, v5, rfl⟩, ⟨pc, hr6, hP, hT⟩, hi6, k6⟩
  have emin : min (refs ts').length (refs ts'.tail).length = tl.length := by
    unfold refs
    rw [List.length_map, List.length_map, List.length_tail]
    rw [List.length_cons] at hEl
    omega
  rw [emin, List.take_of_length_le (by unfold chainL; rw [List.length_map, List.length_zip]; simp)] at hT
  have s06 : Same H H6 := fun b o hb => k6 b o (s5 _ _ (s4 _ _ (s3 b o hb))) (ne_of_none hb hrH)
  have hl6 := k6 _ _ hl5 nlr
  have hat6 : AtT H6 ts' := fun t ht => k6 _ _ (hat5 t ht) (ne_of (hat5 t ht) hr5 fun z => nomatch z)
  refine ⟨_, rfl, _, rfl, l, _, rfl, SqL.of hl6, fun sl2 hsl2 => ?_⟩
  rw [cutV_tail, refs_tail]
  have s7 := same_new hsl2 (.lst (refs ts'.tail))
  have hsl7 : (upd H6 sl2 (.lst (refs ts'.tail))) sl2 = some (.lst (refs ts'.tail)) := upd_same
  generalize upd H6 sl2 (.lst (refs ts'.tail)) = H7 at s7 hsl7 ⊢
  have hat7 := AtT.mono hat6 s7
  have hl7 := s7 _ _ hl6
  refine ⟨sl2, rfl, ⟨_, SqL.of hsl7⟩, fun R hR => ?_⟩
  refine comp_lF (K := K) (a := sl2) (xs := refs ts'.tail) (fun i zs σ H8 => (∃ v3 v4 v5 v6 v7 : Option V, σ = [some (.ref a), some (.ref l), some (.ref r), v3, v4, v5, v6, v7]) ∧ (∃ ps : PL, zs = prefs ps ∧ AtP H8 ps ∧ triL ps = (tl.map (linkE e)).take i) ∧ i ≤ tl.length ∧ H8 R = some (.lst zs) ∧ Same H7 H8) ?_ (fun _ _ _ _ h => SqL.of (h.2.2.2.2 _ _ hsl7)) ?_ ?_
  · exact ⟨⟨_, _, _, none, none, rfl⟩, ⟨[], rfl, (fun _ h => by cases h), rfl⟩, Nat.zero_le _, upd_same, same_new hR _⟩
  · rintro i x zs σ H8 hx ⟨⟨v3, v4, v5, v6, v7, rfl⟩, ⟨ps, rfl, hP8, hT8⟩, hi8, hR8, s8⟩
    obtain ⟨u, hu, rfl⟩ := refs_at hx
    have hut : ts'[i + 1]? = some u := by rw [List.getElem?_tail] at hu; exact hu
    have hi16 : i + 1 < ts'.length := (List.getElem?_eq_some_iff.mp hut).1
    have ht0 : ts'[0]? = some (ts'[0]'(by omega)) := List.getElem?_eq_getElem _
    obtain ⟨e1, he1, hte⟩ := mk_at hat7 eE ht0
    obtain ⟨g, hg, hug⟩ := mk_at hat7 eE hut
    have e1e : e1 = e := by simpa using he1.symm
    subst e1e
    have hgt : tl[i]? = some g := by simpa using hg
    have at0 : atI (refs ts') 0 = some (.ref (ts'[0]'(by omega)).1) := atI_nat (j := 0) (by unfold refs; rw [List.getElem?_map, ht0]; rfl)
    have h1 := hEk e1 (by simp)
    have h2 := hEk g (List.mem_of_getElem? hg)
    have ht8 := s8 _ _ hte
    have hil : i < tl.length := (List.getElem?_eq_some_iff.mp hgt).1
    have hpl : ps.length = i := by
      have := congrArg List.length hT8
      unfold triL at this
      rw [List.length_map, List.length_take, List.length_map] at this
      omega
    have hps : (prefs ps).length = ps.length := by unfold prefs; rw [List.length_map]
    refine ⟨u.1, _, rfl, SqT.of (s8 _ _ hug), rfl, _, _, rfl, _, _, rfl, rfl, ?_⟩
    refine ⟨_, rfl, _, rfl, l, _, _, _, rfl, rfl, SqL.of (s8 _ _ hl7), at0, _, _, _, _, rfl, rfl, SqT.of ht8, rfl, _, rfl, _, rfl, l, _, _, _, rfl, rfl, SqL.of (s8 _ _ hl7), at0, _, _, _, _, rfl, rfl, SqT.of ht8, rfl, g.1, e1.1, rfl, by omega, by omega, (by show 3 ≤ sizeLine; decide), fun m hm => ?_⟩
    have sm := same_new hm (.tup (tV (linkE e1 g)))
    have hR9 := sm _ _ hR8
    have nRm : R ≠ m := ne_of_none hR8 hm
    refine ⟨hR9, (by rw [hps]; exact small1000 (by omega)), ⟨_, _, _, _, _, rfl⟩, ⟨ps ++ [(m, linkE e1 g)], by unfold prefs; rw [List.map_append]; rfl, fun x hx => ?_, ?_⟩, hil, upd_same, fun b o hb => ?_⟩
    · rcases List.mem_append.mp hx with hx | hx
      · exact tup_keep hR9 _ _ _ (sm _ _ (hP8 x hx))
      · rw [List.mem_singleton.mp hx, upd_ne nRm.symm]; exact upd_same
    · rw [List.take_add_one, List.getElem?_map, hgt]
      unfold triL at hT8 ⊢
      rw [List.map_append, hT8]; rfl
    · rw [upd_ne (ne_of_none hb hR)]; exact sm _ _ (s8 b o hb)
  rintro zs σ H8 ⟨⟨v3, v4, v5, v6, v7, rfl⟩, ⟨ps, rfl, hP8, hT8⟩, _, hR8, s8⟩
  have etl : (refs ts'.tail).length = tl.length := by
    unfold refs
    rw [List.length_map, List.length_tail]
    rw [List.length_cons] at hEl
    omega
  rw [etl, List.take_of_length_le (by rw [List.length_map]; exact Nat.le_refl _)] at hT8
  have s08 : Same H H8 := (s06.trans s7).trans s8
  have s68 := s7.trans s8
  refine ⟨_, rfl, a, hs, rfl, s08.seq hS, hA.mono s08, by omega, hk, hri, fun r3 ps3 H9 r30 r39 hP9 hI9 s9 => ⟨_, rfl, _, rfl, (by show 3 ≤ sizeLine; decide), fun rr hrr => ?_⟩⟩
  have s10 := same_new hrr (.lst [.ref r3, .ref r, .ref R])
  have hn3 : PapOk (keyed hs) e.2 (triL ps3) := by
    rcases hI9 with ⟨z, _⟩ | ⟨e2, he2, hm2, z⟩
    · rw [z] at he; cases he
    · rw [z, kk_inj (lexB_total _ _ (hm2 e he) (hmin e2 he2))]
      exact paper_ok hnd he2 hm2
  have s910 := s9.trans s10
  exact q rr r3 r R _ upd_same ⟨ps3, s10 _ _ r39, hP9.mono s10, hn3⟩ ⟨pc, (s68.trans s910) _ _ hr6, hP.mono (s68.trans s910), by rw [hT]; exact chain_ok pE hnd oE⟩ ⟨ps, s910 _ _ hR8, hP8.mono s910, star_ok pE hnd oE (by rw [hT8])⟩ (s08.trans s910)
theorem cut_to (xs : List V) (k : Nat) (h : k ≤ xs.length) : cutV xs none (some (k : Int)) = xs.take k := by
  unfold cutV
  rw [HT.sIx_none, HT.sIx_nat, List.drop_zero, Nat.min_eq_left h]; rfl
theorem cut_from (xs : List V) (k : Nat) (h : k ≤ xs.length) : cutV xs (some (k : Int)) none = xs.drop k := by
  unfold cutV
  rw [HT.sIx_none, HT.sIx_nat, Nat.min_eq_left h, List.take_of_length_le (by rw [List.length_drop]; exact Nat.le_refl _)]
theorem at_ps {ps : PL} {k : Nat} (h : k < ps.length) : atI (prefs ps) (k : Int) = some (.ref ps[k].1) := atI_nat (by unfold prefs; rw [List.getElem?_map, List.getElem?_eq_getElem h]; rfl)
abbrev GL := List (Addr × PL)
def grefs (ls : GL) : List V := ls.map fun q => V.ref q.1
/-- papers that stand here -/
def Grp (H : Hp) (ls : GL) : Prop := ∀ q ∈ ls, H q.1 = some (.lst (prefs q.2)) ∧ AtP H q.2 ∧ q.2.length ≤ 20
theorem grefs_add (ls : GL) (q : Addr × PL) : grefs (ls ++ [q]) = grefs ls ++ [V.ref q.1] := by unfold grefs; rw [List.map_append]; rfl
theorem Grp.mono {H H' : Hp} {ls : GL} (h : Grp H ls) (s : Same H H') : Grp H' ls := fun q hq => ⟨s _ _ (h q hq).1, (h q hq).2.1.mono s, (h q hq).2.2⟩
theorem Grp.add {H : Hp} {ls : GL} {fo nw t : Addr} {ps : PL} {k : Nat} {u : Tri} {xs : List V} (hfo : H fo = some (.lst xs)) (h : Grp H ls) (hP : AtP H ps) (hnw : H nw = some (.lst (prefs (ps.set k (t, u))))) (ht : H t = some (.tup (tV u))) (n : nw ≠ fo) (hl : ps.length ≤ 20) (hne : ∀ q ∈ ls, q.1 ≠ fo) :
    Grp (upd H fo (.lst (xs ++ [.ref nw]))) (ls ++ [(nw, ps.set k (t, u))]) := fun q hq => by
  have tk : ∀ a ys, H a = some (.tup ys) → (upd H fo (.lst (xs ++ [.ref nw]))) a = some (.tup ys) := tup_keep hfo _
  rcases List.mem_append.mp hq with hq | hq
  · refine ⟨by rw [upd_ne (hne q hq)]; exact (h q hq).1, fun p hp => tk _ _ ((h q hq).2.1 p hp), (h q hq).2.2⟩
  · rw [List.mem_singleton.mp hq]
    refine ⟨by rw [upd_ne n]; exact hnw, fun p hp => ?_, by rw [List.length_set]; exact hl⟩
    rcases List.mem_or_eq_of_mem_set hp with hp | rfl
    · exact tk _ _ (hP p hp)
    · exact tk _ _ ht
theorem triL_set (ps : PL) (k : Nat) (q : Addr × Tri) : triL (ps.set k q) = (triL ps).set k q.2 := by unfold triL; rw [List.map_set]
def spSpoilt (K : PySem.W.Frag) : Sp := fun vs H Q _ => ∃ (a r : Addr) (hs : HeadL) (ps : PL) (k : Nat) (z : Str) (u : Tri), vs = [.ref a, .ref r, .int (k : Int)] ∧ SqL K H a (hrefs hs) ∧ AtH H hs ∧ hs.length ≤ 16 ∧ KeyOk hs ∧ Rise hs ∧ H r = some (.lst (prefs ps)) ∧ AtP H ps ∧ ps.length ≤ 16 ∧ (triL ps)[k]? = some u ∧ (z, u.1) ∈ keyed hs ∧
  ∀ (rr : Addr) (q0 q1 q2 : Addr × PL) (ls : GL) (H' : Hp), H' rr = some (.lst (grefs (q0 :: q1 :: q2 :: ls))) → Grp H' (q0 :: q1 :: q2 :: ls) → triL q0.2 = (triL ps).eraseIdx k → triL q2.2 = (triL ps).set k (u.1, u.2.1, u.2.2 + 1) → Same H H' → Q (.ref rr) H'
theorem ok_spoilt (T : Tops K mg) : Df P w K mg base 1 "_law_spoilt" ["_law_heads_here", "_law_paper", "_law_at"] (spSpoilt K) := by
  refine T.t_l_spoilt.df sc_l_spoilt (fun vs H Q E h => ?_) (fun cdv f A outer s H vs Q E hr h => ?_)
  · obtain ⟨a, r, hs, ps, k, z, u, rfl, _⟩ := h
    rfl
  obtain ⟨a, r, hs, ps, k, z, u, rfl, hS, hA, hn, hk, hri, hr0, hP, hpl, hu, hz, q⟩ := h
  refine ⟨_, (@pss_cons _ _ _ _ _ (@ps_asg _ _ _ _ _ _ (@pe_ix _ _ _ _ _ _ _ (ixL K) (@pv _ 1 _ _ (by rfl) (Or.inl rfl) (by decide) (by decide)) (@pv _ 2 _ _ (by rfl) (Or.inl rfl) (by decide) (by decide)) (fun _ _ => rfl)) (@gT _ K _ _ _ 3 _ (@pgs_cons _ _ _ _ _ (@pg_name _ _ 3 _ sc_l_spoilt.nd rfl (Or.inl rfl) (by first | exact .inl rfl | exact .inr rfl)) (@pgs_cons _ _ _ _ _ (@pg_name _ _ 4 _ sc_l_spoilt.nd rfl (Or.inr rfl) (by first | exact .inl rfl | exact .inr rfl)) (@pgs_cons _ _ _ _ _ (@pg_name _ _ 5 _ sc_l_spoilt.nd rfl (Or.inl rfl) (by first | exact .inl rfl | exact .inr rfl)) (@pgs_nil _) (by rfl)) (by rfl)) (by rfl)) (by rfl) (by rfl) (by rfl) (by rfl)) (by rfl) (by rfl) (by rfl)) (@pss_cons _ _ _ _ _ (@ps_set _ _ 6 _ _ _ _ sc_l_spoilt.nd rfl (Or.inl rfl) (@pe_op _ _ _ _ _ _ _ _ op_cat (@pe_slice _ _ _ _ _ _ _ _ _ _ (slL K) (@pv _ 1 _ _ (by rfl) (Or.inl rfl) (by decide) (by decide)) (@po_none _) (@po_some _ _ _ (@pv _ 2 _ _ (by rfl) (Or.inl rfl) (by decide) (by decide)))) (@pe_slice _ _ _ _ _ _ _ _ _ _ (slL K) (@pv _ 1 _ _ (by rfl) (Or.inl rfl) (by decide) (by decide)) (@po_some _ _ _ (@pe_op _ _ _ _ _ _ _ _ op_add (@pv _ 2 _ _ (by rfl) (Or.inl rfl) (by decide) (by decide)) (@pe_int _ _ _ _))) (@po_none _))) (by rfl) (by first | exact .inl rfl | exact .inr rfl)) (@pss_cons _ _ _ _ _ (@ps_set _ _ 7 _ _ _ _ sc_l_spoilt.nd rfl (Or.inl rfl) (@pe_lst _ _ _ _ (@pa_cons _ _ _ _ _ (@pv _ 6 _ _ (by rfl) (Or.inl rfl) (by decide) (by decide)) (@pa_cons _ _ _ _ _ (@pe_op _ _ _ _ _ _ _ _ op_cat (@pv _ 6 _ _ (by rfl) (Or.inl rfl) (by decide) (by decide)) (@pe_lst _ _ _ _ (@pa_cons _ _ _ _ _ (@pe_ix _ _ _ _ _ _ _ (ixL K) (@pv _ 1 _ _ (by rfl) (Or.inl rfl) (by decide) (by decide)) (@pv _ 2 _ _ (by rfl) (Or.inl rfl) (by decide) (by decide)) (fun _ _ => rfl)) (@pa_nil _) (by rfl)))) (@pa_nil _) (by rfl)) (by rfl))) (by rfl) (by first | exact .inl rfl | exact .inr rfl)) (@pss_cons _ _ _ _ _ (@ps_for _ _ _ _ _ _ _ _ PassesOwn.never rfl (@iT _ K _ _ _ (@pe_tup _ _ _ _ _ (@pa_cons _ _ _ _ _ (@pe_op _ _ _ _ _ _ _ _ op_add (@pv _ 5 _ _ (by rfl) (Or.inl rfl) (by decide) (by decide)) (@pe_int _ _ _ _)) (@pa_cons _ _ _ _ _ (@pe_op _ _ _ _ _ _ _ _ op_sub (@pv _ 5 _ _ (by rfl) (Or.inl rfl) (by decide) (by decide)) (@pe_int _ _ _ _)) (@pa_cons _ _ _ _ _ (@pe_callB _ _ _ _ _ _ _ _ _ call_len_str (by rfl) T.b.n_len PySem.boot_len (@pa_cons _ _ _ _ _ (@pe_ix _ _ _ _ _ _ _ (ixG hr) (@pe_callTy _ _ _ _ _ _ _ _ _ (dictP K) (by rfl) T.b.n_dict boot_dict (@pa_cons _ _ _ _ _ (@pv _ 0 _ _ (by rfl) (Or.inl rfl) (by decide) (by decide)) (@pa_nil _) (by rfl)) (by decide) (by decide) (by rfl) (by rfl)) (@pv _ 3 _ _ (by rfl) (Or.inl rfl) (by decide) (by decide)) (fun _ _ => rfl)) (@pa_nil _) (by rfl)) (by decide) (by decide) (by rfl) (by rfl)) (@pa_nil _) (by rfl)) (by rfl)) (by rfl))) (by rfl)) (@pg_name _ _ 8 _ sc_l_spoilt.nd rfl (Or.inl rfl) (by first | exact .inl rfl | exact .inr rfl)) (@pss_one _ _ _ (@ps_expr _ _ _ _ (@pe_bm _ _ _ _ _ _ _ _ _ _ _ _ PySem.F.plainAttrs_list PySem.F.slot_list_append PySem.F.type_list_append mt_append (@pv _ 7 _ _ (by rfl) (Or.inl rfl) (by decide) (by decide)) (@pa_cons _ _ _ _ _ (@pe_op _ _ _ _ _ _ _ _ op_cat (@pe_op _ _ _ _ _ _ _ _ op_cat (@pe_slice _ _ _ _ _ _ _ _ _ _ (slL K) (@pv _ 1 _ _ (by rfl) (Or.inl rfl) (by decide) (by decide)) (@po_none _) (@po_some _ _ _ (@pv _ 2 _ _ (by rfl) (Or.inl rfl) (by decide) (by decide)))) (@pe_lst _ _ _ _ (@pa_cons _ _ _ _ _ (@pe_tup _ _ _ _ _ (@pa_cons _ _ _ _ _ (@pv _ 3 _ _ (by rfl) (Or.inl rfl) (by decide) (by decide)) (@pa_cons _ _ _ _ _ (@pv _ 4 _ _ (by rfl) (Or.inr (Or.inl rfl)) (by decide) (by decide)) (@pa_cons _ _ _ _ _ (@pv _ 8 _ _ (by rfl) (Or.inl rfl) (by decide) (by decide)) (@pa_nil _) (by rfl)) (by rfl)) (by rfl))) (@pa_nil _) (by rfl)))) (@pe_slice _ _ _ _ _ _ _ _ _ _ (slL K) (@pv _ 1 _ _ (by rfl) (Or.inl rfl) (by decide) (by decide)) (@po_some _ _ _ (@pe_op _ _ _ _ _ _ _ _ op_add (@pv _ 2 _ _ (by rfl) (Or.inl rfl) (by decide) (by decide)) (@pe_int _ _ _ _))) (@po_none _))) (@pa_nil _) (by rfl)) (by rfl) (by rfl) (by rfl) (by rfl) (by rfl)) (by rfl))) (by intro _; rfl)) (@pss_cons _ _ _ _ _ (@ps_for _ _ _ _ _ _ _ _ PassesOwn.never rfl (@iL _ K _ _ _ (@pe_comp _ _ _ _ _ _ _ _ _ _ _ _ _ _ cs_15 rfl rfl rfl (@iL _ K _ _ _ (@pv _ 0 _ _ (by rfl) (Or.inl rfl) (by decide) (by decide)) (by rfl)) (fun _ _ _ _ => (@gT _ K _ _ _ 2 _ (@pgs_cons _ _ _ _ _ (@cg _ _ _ _ _ _ _ _ _ _ _ 10 cs_15 rfl (by decide +kernel) (by rfl)) (@pgs_cons _ _ _ _ _ (@cg _ _ _ _ _ _ _ _ _ _ _ 11 cs_15 rfl (by decide +kernel) (by rfl)) (@pgs_nil _) (by rfl)) (by rfl)) (by rfl) (by rfl) (by rfl) (by rfl))) (fun _ _ _ _ => (@pts_one _ _ _ (@pt_cmpR _ _ _ _ _ _ _ _ op_ne (@cw _ _ _ _ _ _ _ _ _ _ _ 10 cs_15 rfl (by decide +kernel) (by rfl) (by decide) (by decide)) (@cv _ _ _ _ _ _ _ _ _ _ _ 4 cs_15 rfl (by decide +kernel) (by rfl) (by decide) (by decide)) (nomark _)))) (fun _ _ _ _ => (@cw _ _ _ _ _ _ _ _ _ _ _ 10 cs_15 rfl (by decide +kernel) (by rfl) (by decide) (by decide))) (by intro _; rfl)) (by rfl)) (@pg_name _ _ 9 _ sc_l_spoilt.nd rfl (Or.inl rfl) (by first | exact .inl rfl | exact .inr rfl)) (@pss_one _ _ _ (@ps_expr _ _ _ _ (@pe_bm _ _ _ _ _ _ _ _ _ _ _ _ PySem.F.plainAttrs_list PySem.F.slot_list_append PySem.F.type_list_append mt_append (@pv _ 7 _ _ (by rfl) (Or.inl rfl) (by decide) (by decide)) (@pa_cons _ _ _ _ _ (@pe_op _ _ _ _ _ _ _ _ op_cat (@pe_op _ _ _ _ _ _ _ _ op_cat (@pe_slice _ _ _ _ _ _ _ _ _ _ (slL K) (@pv _ 1 _ _ (by rfl) (Or.inl rfl) (by decide) (by decide)) (@po_none _) (@po_some _ _ _ (@pv _ 2 _ _ (by rfl) (Or.inl rfl) (by decide) (by decide)))) (@pe_lst _ _ _ _ (@pa_cons _ _ _ _ _ (@pe_tup _ _ _ _ _ (@pa_cons _ _ _ _ _ (@pv _ 3 _ _ (by rfl) (Or.inl rfl) (by decide) (by decide)) (@pa_cons _ _ _ _ _ (@pv _ 9 _ _ (by rfl) (Or.inl rfl) (by decide) (by decide)) (@pa_cons _ _ _ _ _ (@pv _ 5 _ _ (by rfl) (Or.inl rfl) (by decide) (by decide)) (@pa_nil _) (by rfl)) (by rfl)) (by rfl))) (@pa_nil _) (by rfl)))) (@pe_slice _ _ _ _ _ _ _ _ _ _ (slL K) (@pv _ 1 _ _ (by rfl) (Or.inl rfl) (by decide) (by decide)) (@po_some _ _ _ (@pe_op _ _ _ _ _ _ _ _ op_add (@pv _ 2 _ _ (by rfl) (Or.inl rfl) (by decide) (by decide)) (@pe_int _ _ _ _))) (@po_none _))) (@pa_nil _) (by rfl)) (by rfl) (by rfl) (by rfl) (by rfl) (by rfl)) (by rfl))) (by intro _; rfl)) (@pss_one _ _ _ (@ps_ret _ _ _ _ (@pv _ 7 _ _ (by rfl) (Or.inl rfl) (by decide) (by decide))))))))), ?_⟩
  have hpl2 : (prefs ps).length = ps.length := by unfold prefs; rw [List.length_map]
  have lk : k < ps.length := by
    have := (List.getElem?_eq_some_iff.mp hu).1
    unfold triL at this
    rw [List.length_map] at this
    exact this
  have hTk := hP _ (List.getElem_mem lk)
  have huk : ps[k].2 = u := by
    unfold triL at hu
    rw [List.getElem?_map, List.getElem?_eq_getElem lk] at hu
    exact Option.some.inj hu
  rw [huk] at hTk
  obtain ⟨ur, uw, uf⟩ := u
  refine ⟨_, rfl, _, rfl, r, _, _, _, rfl, rfl, SqL.of hr0, at_ps lk, _, _, rfl, SqT.of hTk, rfl, _, _, rfl, _, _, rfl, _, _, rfl, rfl, ?_⟩
  -- rest
  refine ⟨_, rfl, _, rfl, _, rfl, r, _, rfl, SqL.of hr0, fun s1 hs1 => ?_⟩
  rw [cut_to _ _ (by rw [hpl2]; omega)]
  have e1 := same_new hs1 (.lst ((prefs ps).take k))
  have hs1' : (upd H s1 (.lst ((prefs ps).take k))) s1 = some (.lst ((prefs ps).take k)) := upd_same
  generalize upd H s1 (.lst ((prefs ps).take k)) = H1 at e1 hs1' ⊢
  refine ⟨_, rfl, _, rfl, _, _, rfl, rfl, _, rfl, r, _, rfl, SqL.of (e1 _ _ hr0), fun s2 hs2 => ?_⟩
  rw [show ((k : Int) + 1) = ((k + 1 : Nat) : Int) from rfl, cut_from _ _ (by rw [hpl2]; omega)]
  have e2 := same_new hs2 (.lst ((prefs ps).drop (k + 1)))
  have hs2' : (upd H1 s2 (.lst ((prefs ps).drop (k + 1)))) s2 = some (.lst ((prefs ps).drop (k + 1))) := upd_same
  generalize upd H1 s2 (.lst ((prefs ps).drop (k + 1))) = H2 at e2 hs2' ⊢
  refine ⟨s1, s2, _, _, rfl, rfl, e2 _ _ hs1', hs2', (by rw [List.length_take, List.length_drop]; exact Nat.le_of_lt (small1000 (by omega))), fun rs hrs => ?_⟩
  have ers : (prefs ps).take k ++ (prefs ps).drop (k + 1) = prefs (ps.eraseIdx k) := by
    rw [List.eraseIdx_eq_take_drop_succ]; unfold prefs; rw [List.map_append, List.map_take, List.map_drop]
  rw [ers]
  have e3 := same_new hrs (.lst (prefs (ps.eraseIdx k)))
  have hrs3 : (upd H2 rs (.lst (prefs (ps.eraseIdx k)))) rs = some (.lst (prefs (ps.eraseIdx k))) := upd_same
  generalize upd H2 rs (.lst (prefs (ps.eraseIdx k))) = H3 at e3 hrs3 ⊢
  have e03 := (e1.trans e2).trans e3
  -- found
  refine ⟨_, rfl, _, rfl, _, rfl, _, rfl, r, _, _, _, rfl, rfl, SqL.of (e03 _ _ hr0), at_ps lk, (by show 1 ≤ sizeLine; decide), fun l1 hl1 => ?_⟩
  have e4 := same_new hl1 (.lst [.ref ps[k].1])
  have hl14 : (upd H3 l1 (.lst [.ref ps[k].1])) l1 = some (.lst [.ref ps[k].1]) := upd_same
  generalize upd H3 l1 (.lst [.ref ps[k].1]) = H4 at e4 hl14 ⊢
  have hel : (ps.eraseIdx k).length ≤ ps.length := List.length_eraseIdx_le ps k
  refine ⟨rs, l1, _, _, rfl, rfl, e4 _ _ hrs3, hl14, (by unfold prefs; rw [List.length_map, List.length_singleton]; exact Nat.le_of_lt (small1000 (by omega))), fun l2 hl2 => ?_⟩
  have el2 : prefs (ps.eraseIdx k) ++ [.ref ps[k].1] = prefs (ps.eraseIdx k ++ [ps[k]]) := by unfold prefs; rw [List.map_append]; rfl
  rw [el2]
  have e5 := same_new hl2 (.lst (prefs (ps.eraseIdx k ++ [ps[k]])))
  have hl25 : (upd H4 l2 (.lst (prefs (ps.eraseIdx k ++ [ps[k]])))) l2 = some (.lst (prefs (ps.eraseIdx k ++ [ps[k]]))) := upd_same
  generalize upd H4 l2 (.lst (prefs (ps.eraseIdx k ++ [ps[k]]))) = H5 at e5 hl25 ⊢
  refine ⟨(by show 2 ≤ sizeLine; decide), fun fo hfo => ?_⟩
  have e6 := same_new hfo (.lst [.ref rs, .ref l2])
  have hfo6 : (upd H5 fo (.lst [.ref rs, .ref l2])) fo = some (.lst (grefs [(rs, ps.eraseIdx k), (l2, ps.eraseIdx k ++ [ps[k]])])) := upd_same
  generalize upd H5 fo (.lst [.ref rs, .ref l2]) = H6 at e6 hfo6 ⊢
  have e06 : Same H H6 := (e03.trans e4).trans (e5.trans e6)
  have nfo : ∀ {b o}, H5 b = some o → b ≠ fo := fun h => ne_of_none h hfo
  have hfoH : H fo = none := ((e03.trans e4).trans e5).free hfo
  have hP6 := hP.mono e06
  have hG6 : Grp H6 [(rs, ps.eraseIdx k), (l2, ps.eraseIdx k ++ [ps[k]])] := fun x hx => by
    simp only [List.mem_cons, List.not_mem_nil, or_false] at hx
    rcases hx with rfl | rfl
    · exact ⟨((e4.trans e5).trans e6) _ _ hrs3, fun p hp => hP6 p (List.mem_of_mem_eraseIdx hp), by show (ps.eraseIdx k).length ≤ 20; omega⟩
    · refine ⟨e6 _ _ hl25, fun p hp => ?_, by show (ps.eraseIdx k ++ [ps[k]]).length ≤ 20; rw [List.length_append, List.length_singleton]; omega⟩
      rcases List.mem_append.mp hp with hp | hp
      · exact hP6 p (List.mem_of_mem_eraseIdx hp)
      · rw [List.mem_singleton.mp hp]; exact hP6 _ (List.getElem_mem lk)
  -- the three numbers
  have hus : SqL K H6 a ((hs.map fun h => (h.1, (Sum.inl h.2.1 : Key), optV h.2.2)).map fun t => V.ref t.1) := by rw [List.map_map]; exact e06.seq hS
  refine ⟨_, rfl, _, _, rfl, rfl, _, rfl, _, _, rfl, rfl, _, rfl, a, hs.map (fun h => (h.1, (Sum.inl h.2.1 : Key), optV h.2.2)), rfl, hus, (fun t ht => ?_), (by rw [List.length_map]; omega), fun D hD => ?_⟩
  · obtain ⟨h, hh, rfl⟩ := List.mem_map.mp ht
    exact hA.mono e06 h hh
  have ekv : (hs.map fun h => (h.1, (Sum.inl h.2.1 : Key), optV h.2.2)).map (·.2) = kvs0 hs := by unfold kvs0; rw [List.map_map]; rfl
  have hknd : ((kvs0 hs).map (·.1)).Nodup := by
    unfold kvs0
    rw [List.map_map]
    exact List.Pairwise.map _ (fun x y (hxy : x.2.1 < y.2.1) e => by have := Sum.inl.inj e; omega) hri
  rw [ekv, mergeK_nd (kvs0 hs) [] (by rw [List.nil_append]; exact hknd), List.nil_append]
  have e7 := same_new hD (.dK (kvs0 hs))
  have hD7 : (upd H6 D (.dK (kvs0 hs))) D = some (.dK (kvs0 hs)) := upd_same
  generalize upd H6 D (.dK (kvs0 hs)) = H7 at e7 hD7 ⊢
  obtain ⟨h0, hh0, x1, x2⟩ := keyed_mem hz
  have hlook : valV (kvs0 hs) (.inl ur) = some (.str z) := by
    have := kvs0_at hri hh0
    rw [x1, x2] at this
    exact this
  have hzl : z.length ≤ 28 := (hk h0 hh0 _ x2).1
  refine ⟨_, rfl, D, _, rfl, dget hD7 hlook, z, rfl, small (by omega), (by show 3 ≤ sizeLine; decide), fun tp htp => ?_⟩
  have ntf : tp ≠ fo := (ne_of_none (e7 _ _ hfo6) htp).symm
  refine ⟨tp, rfl, ⟨_, SqT.of upd_same⟩, ?_⟩
  refine for_tup (K := K) (a := tp) (xs := ([uf + 1, uf - 1, (z.length : Int)] : List Int).map V.int) (fun i σ H9 => (∃ v8 v9 : Option V, σ = [some (.ref a), some (.ref r), some (.int (k : Int)), some (.int ur), some (.int uw), some (.int uf), some (.ref rs), some (.ref fo), v8, v9]) ∧ (∃ ls : GL, H9 fo = some (.lst (grefs ([(rs, ps.eraseIdx k), (l2, ps.eraseIdx k ++ [ps[k]])] ++ ls))) ∧ Grp H9 ([(rs, ps.eraseIdx k), (l2, ps.eraseIdx k ++ [ps[k]])] ++ ls) ∧ (∀ x ∈ [(rs, ps.eraseIdx k), (l2, ps.eraseIdx k ++ [ps[k]])] ++ ls, x.1 ≠ fo) ∧ ls.length = i ∧ (0 < i → ∃ q2 r2, ls = q2 :: r2 ∧ triL q2.2 = (triL ps).set k (ur, uw, uf + 1))) ∧ (∀ b o, H7 b = some o → b ≠ fo → H9 b = some o) ∧ H9 tp = some (.tup (([uf + 1, uf - 1, (z.length : Int)] : List Int).map V.int))) ?_ ?_ ?_ ?_
  · have e78 := e7.trans (same_new htp (.tup (([uf + 1, uf - 1, (z.length : Int)] : List Int).map V.int)))
    refine ⟨⟨_, _, rfl⟩, ⟨[], by rw [List.append_nil]; exact e78 _ _ hfo6, by rw [List.append_nil]; exact hG6.mono e78, fun x hx => ?_, rfl, fun h => by omega⟩, fun b o h _ => same_new htp _ _ _ h, upd_same⟩
    rw [List.append_nil] at hx
    simp only [List.mem_cons, List.not_mem_nil, or_false] at hx
    rcases hx with rfl | rfl
    · exact nfo ((e4.trans e5) _ _ hrs3)
    · exact nfo hl25
  · rintro i σ H9 _ ⟨_, _, _, k9⟩
    exact SqT.of k9
  · rintro i x σ H9 hx ⟨⟨v8, v9, rfl⟩, ⟨ls, hfo9, hG9, hne9, hll, h2⟩, k9, htp9⟩
    rw [List.getElem?_map] at hx
    cases hnum : ([uf + 1, uf - 1, (z.length : Int)] : List Int)[i]? with
    | none => rw [hnum] at hx; cases hx
    | some num =>
    rw [hnum] at hx
    cases hx
    have hi3 : i < 3 := (List.getElem?_eq_some_iff.mp hnum).1
    have s0A : Same H H9 := fun b o h => k9 _ _ (e7 _ _ (e06 _ _ h)) (ne_of_none h hfoH)
    have hrA := s0A _ _ hr0
    have hfoA := hfo9
    have hG := hG9
    refine ⟨_, rfl, .inl ⟨rfl, _, SqL.of hfoA⟩, _, rfl, _, rfl, _, rfl, r, _, rfl, SqL.of hrA, fun s1' hs1 => ?_⟩
    rw [cut_to _ _ (by rw [hpl2]; omega)]
    have s18 := same_new hs1 (.lst ((prefs ps).take k))
    have hs118 : (upd H9 s1' (.lst ((prefs ps).take k))) s1' = some (.lst ((prefs ps).take k)) := upd_same
    generalize upd H9 s1' (.lst ((prefs ps).take k)) = H18 at s18 hs118 ⊢
    refine ⟨_, rfl, _, rfl, _, rfl, (by show 3 ≤ sizeLine; decide), fun t ht => ⟨(by show 1 ≤ sizeLine; decide), fun l hl => ?_⟩⟩
    have s19 := same_new ht (.tup [.int ur, .int uw, .int num])
    have ht19 : (upd H18 t (.tup [.int ur, .int uw, .int num])) t = some (.tup [.int ur, .int uw, .int num]) := upd_same
    generalize upd H18 t (.tup [.int ur, .int uw, .int num]) = H19 at s19 ht19 hl ⊢
    have s20 := same_new hl (.lst [.ref t])
    have hl20 : (upd H19 l (.lst [.ref t])) l = some (.lst [.ref t]) := upd_same
    generalize upd H19 l (.lst [.ref t]) = H20 at s20 hl20 ⊢
    have s1820 := s19.trans s20
    refine ⟨s1', l, _, _, rfl, rfl, s1820 _ _ hs118, hl20, (by rw [List.length_take, List.length_singleton]; exact Nat.le_of_lt (small1000 (by omega))), fun c1' hc1' => ?_⟩
    have s21 := same_new hc1' (.lst ((prefs ps).take k ++ [.ref t]))
    have hc21 : (upd H20 c1' (.lst ((prefs ps).take k ++ [.ref t]))) c1' = some (.lst ((prefs ps).take k ++ [.ref t])) := upd_same
    generalize upd H20 c1' (.lst ((prefs ps).take k ++ [.ref t])) = H21 at s21 hc21 ⊢
    have sA21 := (s18.trans s1820).trans s21
    refine ⟨_, rfl, _, rfl, _, _, rfl, rfl, _, rfl, r, _, rfl, SqL.of (sA21 _ _ hrA), fun s2' hs2 => ?_⟩
    rw [show ((k : Int) + 1) = ((k + 1 : Nat) : Int) from rfl, cut_from _ _ (by rw [hpl2]; omega)]
    have s22 := same_new hs2 (.lst ((prefs ps).drop (k + 1)))
    have hs222 : (upd H21 s2' (.lst ((prefs ps).drop (k + 1)))) s2' = some (.lst ((prefs ps).drop (k + 1))) := upd_same
    generalize upd H21 s2' (.lst ((prefs ps).drop (k + 1))) = H22 at s22 hs222 ⊢
    refine ⟨c1', s2', _, _, rfl, rfl, s22 _ _ hc21, hs222, (by rw [List.length_append, List.length_take, List.length_singleton, List.length_drop]; exact Nat.le_of_lt (small1000 (by omega))), fun nw hnw => ?_⟩
    have enw : (prefs ps).take k ++ [.ref t] ++ (prefs ps).drop (k + 1) = prefs (ps.set k (t, (ur, uw, num))) := by
      unfold prefs
      rw [List.set_eq_take_append_cons_drop, if_pos lk, List.map_append, List.map_cons, List.map_take, List.map_drop, List.append_assoc]; rfl
    rw [enw]
    have s23 := same_new hnw (.lst (prefs (ps.set k (t, (ur, uw, num)))))
    have hnw23 : (upd H22 nw (.lst (prefs (ps.set k (t, (ur, uw, num)))))) nw = some (.lst (prefs (ps.set k (t, (ur, uw, num))))) := upd_same
    have nnf : fo ≠ nw := ne_of_none ((sA21.trans s22) _ _ hfoA) hnw
    generalize upd H22 nw (.lst (prefs (ps.set k (t, (ur, uw, num))))) = H23 at s23 hnw23 ⊢
    have sA23 := (sA21.trans s22).trans s23
    have hfo23 := sA23 _ _ hfoA
    have ht23 := (((s20.trans s21).trans s22).trans s23) _ _ ht19
    refine ⟨fo, _, _, rfl, rfl, hfo23, (by unfold grefs; rw [List.length_map, List.length_append, hll]; exact small1000 (by show 2 + i ≤ 1000; omega)), ?_⟩
    have gFo := Grp.add (k := k) (t := t) (u := (ur, uw, num)) hfo23 (hG.mono sA23) (hP.mono (s0A.trans sA23)) hnw23 ht23 nnf.symm (by omega) hne9
    refine ⟨⟨_, _, rfl⟩, ⟨ls ++ [(nw, ps.set k (t, (ur, uw, num)))], ?_, ?_, ?_, by rw [List.length_append, hll]; rfl, fun _ => ?_⟩, fun b o h n => ?_, ?_⟩
    · rw [upd_same, ← List.append_assoc, grefs_add]
    · rw [← List.append_assoc]; exact gFo
    · intro x hx
      rw [← List.append_assoc] at hx
      rcases List.mem_append.mp hx with hx | hx
      · exact hne9 x hx
      · rw [List.mem_singleton.mp hx]; exact nnf.symm
    · cases ls with
      | nil =>
        have hi0 : i = 0 := by simpa using hll.symm
        subst hi0
        simp only [List.getElem?_cons_zero, Option.some.injEq] at hnum
        exact ⟨_, _, rfl, by rw [triL_set, ← hnum]⟩
      | cons q2 r2 =>
        obtain ⟨q2', r2', e, h2'⟩ := h2 (by rw [List.length_cons] at hll; omega)
        injection e with e1 e2
        exact ⟨q2, r2 ++ [(nw, ps.set k (t, (ur, uw, num)))], rfl, by rw [e1]; exact h2'⟩
    · rw [upd_ne n]; exact sA23 _ _ (k9 b o h n)
    · rw [upd_ne ntf]; exact sA23 _ _ htp9
  rintro σ H9 ⟨⟨v8, v9, rfl⟩, ⟨ls, hfo9, hG9, hne9, hll, h2⟩, k9, htp9⟩
  obtain ⟨q2, r2, rfl, hq2⟩ := h2 (by show 0 < 3; decide)
  have s09 : Same H H9 := fun b o h => k9 _ _ (e7 _ _ (e06 _ _ h)) (ne_of_none h hfoH)
  -- the other winners
  refine ⟨_, rfl, a, rfl, ⟨_, s09.seq hS⟩, fun B hB => ?_⟩
  refine comp_lF (K := K) (a := a) (xs := hrefs hs) (fun i zs σ H10 => (∃ v1 v2 v3 v4 : Option V, σ = [some (.ref a), some (.ref r), some (.int (k : Int)), some (.int ur), some (.int uw), some (.int uf), some (.ref rs), some (.ref fo), v1, v2, v3, v4]) ∧ (∃ ns : List Int, zs = ns.map V.int ∧ ns.length ≤ i) ∧ i ≤ hs.length ∧ H10 B = some (.lst zs) ∧ Same H9 H10) ?_ (fun _ _ _ _ h => h.2.2.2.2.seq (s09.seq hS)) ?_ ?_
  · exact ⟨⟨_, _, none, none, rfl⟩, ⟨[], rfl, Nat.le_refl _⟩, Nat.zero_le _, upd_same, same_new hB _⟩
  · rintro i x zs σ H10 hx ⟨⟨v1, v2, v3, v4, rfl⟩, ⟨ns, rfl, hnl⟩, hi', hB10, s10⟩
    obtain ⟨h, hh, rfl⟩ := href_at hx
    have hil : i < hs.length := (List.getElem?_eq_some_iff.mp hh).1
    have hH := (hA.mono s09).mono s10 h (List.mem_of_getElem? hh)
    refine ⟨h.1, _, rfl, SqT.of hH, rfl, _, _, rfl, _, _, rfl, rfl, ?_⟩
    refine ⟨_, rfl, _, rfl, rfl, _, rfl, ?_⟩
    by_cases hrow : V.int h.2.1 = V.int uw
    · exact iteNS hrow ⟨⟨_, _, _, _, rfl⟩, ⟨ns, rfl, by omega⟩, hil, hB10, s10⟩
    · refine iteNN hrow ⟨_, rfl, hB10, (by rw [List.length_map]; exact small1000 (by omega)), ⟨_, _, _, _, rfl⟩, ⟨ns ++ [h.2.1], by rw [List.map_append]; rfl, by rw [List.length_append, List.length_singleton]; omega⟩, hil, upd_same, fun b o hb => ?_⟩
      rw [upd_ne (ne_of_none hb hB)]; exact s10 b o hb
  rintro zs σ H10 ⟨⟨v1, v2, v3, v4, rfl⟩, ⟨ns, rfl, hnl⟩, _, hB10, s10⟩
  rw [show (hrefs hs).length = hs.length from List.length_map _] at hnl
  have nBf : B ≠ fo := (ne_of_none hfo9 hB).symm
  refine ⟨B, rfl, ⟨_, SqL.of hB10⟩, ?_⟩
  refine for_list (K := K) (a := B) (xs := ns.map V.int) (fun i σ H11 => (∃ v8 v9 : Option V, σ = [some (.ref a), some (.ref r), some (.int (k : Int)), some (.int ur), some (.int uw), some (.int uf), some (.ref rs), some (.ref fo), v8, v9]) ∧ (∃ ls : GL, H11 fo = some (.lst (grefs ([(rs, ps.eraseIdx k), (l2, ps.eraseIdx k ++ [ps[k]]), q2] ++ ls))) ∧ Grp H11 ([(rs, ps.eraseIdx k), (l2, ps.eraseIdx k ++ [ps[k]]), q2] ++ ls) ∧ (∀ x ∈ [(rs, ps.eraseIdx k), (l2, ps.eraseIdx k ++ [ps[k]]), q2] ++ ls, x.1 ≠ fo) ∧ ls.length ≤ 2 + i) ∧ (∀ b o, H10 b = some o → b ≠ fo → H11 b = some o)) ?_ (fun _ _ _ _ ⟨_, _, k11⟩ => SqL.of (k11 _ _ hB10 nBf)) ?_ ?_
  · refine ⟨⟨_, _, rfl⟩, ⟨r2, s10 _ _ hfo9, hG9.mono s10, hne9, ?_⟩, fun b o h _ => h⟩
    rw [List.length_cons] at hll
    have : r2.length + 1 = 3 := hll
    omega
  · rintro i x σ H11 hx ⟨⟨v8, v9, rfl⟩, ⟨ls, hfo11, hG11, hne11, hll2⟩, k11⟩
    rw [List.getElem?_map] at hx
    cases hnum : ns[i]? with
    | none => rw [hnum] at hx; cases hx
    | some num =>
    rw [hnum] at hx
    cases hx
    have hi3 : i < ns.length := (List.getElem?_eq_some_iff.mp hnum).1
    have s0A : Same H H11 := fun b o h => k11 _ _ (s10 _ _ (s09 _ _ h)) (ne_of_none h hfoH)
    have hrA := s0A _ _ hr0
    have hfoA := hfo11
    have hG := hG11
    refine ⟨_, rfl, .inl ⟨rfl, _, SqL.of hfoA⟩, _, rfl, _, rfl, _, rfl, r, _, rfl, SqL.of hrA, fun s1' hs1 => ?_⟩
    rw [cut_to _ _ (by rw [hpl2]; omega)]
    have s18 := same_new hs1 (.lst ((prefs ps).take k))
    have hs118 : (upd H11 s1' (.lst ((prefs ps).take k))) s1' = some (.lst ((prefs ps).take k)) := upd_same
    generalize upd H11 s1' (.lst ((prefs ps).take k)) = H18 at s18 hs118 ⊢
    refine ⟨_, rfl, _, rfl, _, rfl, (by show 3 ≤ sizeLine; decide), fun t ht => ⟨(by show 1 ≤ sizeLine; decide), fun l hl => ?_⟩⟩
    have s19 := same_new ht (.tup [.int ur, .int num, .int uf])
    have ht19 : (upd H18 t (.tup [.int ur, .int num, .int uf])) t = some (.tup [.int ur, .int num, .int uf]) := upd_same
    generalize upd H18 t (.tup [.int ur, .int num, .int uf]) = H19 at s19 ht19 hl ⊢
    have s20 := same_new hl (.lst [.ref t])
    have hl20 : (upd H19 l (.lst [.ref t])) l = some (.lst [.ref t]) := upd_same
    generalize upd H19 l (.lst [.ref t]) = H20 at s20 hl20 ⊢
    have s1820 := s19.trans s20
    refine ⟨s1', l, _, _, rfl, rfl, s1820 _ _ hs118, hl20, (by rw [List.length_take, List.length_singleton]; exact Nat.le_of_lt (small1000 (by omega))), fun c1' hc1' => ?_⟩
    have s21 := same_new hc1' (.lst ((prefs ps).take k ++ [.ref t]))
    have hc21 : (upd H20 c1' (.lst ((prefs ps).take k ++ [.ref t]))) c1' = some (.lst ((prefs ps).take k ++ [.ref t])) := upd_same
    generalize upd H20 c1' (.lst ((prefs ps).take k ++ [.ref t])) = H21 at s21 hc21 ⊢
    have sA21 := (s18.trans s1820).trans s21
    refine ⟨_, rfl, _, rfl, _, _, rfl, rfl, _, rfl, r, _, rfl, SqL.of (sA21 _ _ hrA), fun s2' hs2 => ?_⟩
    rw [show ((k : Int) + 1) = ((k + 1 : Nat) : Int) from rfl, cut_from _ _ (by rw [hpl2]; omega)]
    have s22 := same_new hs2 (.lst ((prefs ps).drop (k + 1)))
    have hs222 : (upd H21 s2' (.lst ((prefs ps).drop (k + 1)))) s2' = some (.lst ((prefs ps).drop (k + 1))) := upd_same
    generalize upd H21 s2' (.lst ((prefs ps).drop (k + 1))) = H22 at s22 hs222 ⊢
    refine ⟨c1', s2', _, _, rfl, rfl, s22 _ _ hc21, hs222, (by rw [List.length_append, List.length_take, List.length_singleton, List.length_drop]; exact Nat.le_of_lt (small1000 (by omega))), fun nw hnw => ?_⟩
    have enw : (prefs ps).take k ++ [.ref t] ++ (prefs ps).drop (k + 1) = prefs (ps.set k (t, (ur, num, uf))) := by
      unfold prefs
      rw [List.set_eq_take_append_cons_drop, if_pos lk, List.map_append, List.map_cons, List.map_take, List.map_drop, List.append_assoc]; rfl
    rw [enw]
    have s23 := same_new hnw (.lst (prefs (ps.set k (t, (ur, num, uf)))))
    have hnw23 : (upd H22 nw (.lst (prefs (ps.set k (t, (ur, num, uf)))))) nw = some (.lst (prefs (ps.set k (t, (ur, num, uf))))) := upd_same
    have nnf : fo ≠ nw := ne_of_none ((sA21.trans s22) _ _ hfoA) hnw
    generalize upd H22 nw (.lst (prefs (ps.set k (t, (ur, num, uf))))) = H23 at s23 hnw23 ⊢
    have sA23 := (sA21.trans s22).trans s23
    have hfo23 := sA23 _ _ hfoA
    have ht23 := (((s20.trans s21).trans s22).trans s23) _ _ ht19
    refine ⟨fo, _, _, rfl, rfl, hfo23, (by unfold grefs; rw [List.length_map, List.length_append]; exact small1000 (by show 3 + ls.length ≤ 1000; omega)), ?_⟩
    have gFo := Grp.add (k := k) (t := t) (u := (ur, num, uf)) hfo23 (hG.mono sA23) (hP.mono (s0A.trans sA23)) hnw23 ht23 nnf.symm (by omega) hne11
    refine ⟨⟨_, _, rfl⟩, ⟨ls ++ [(nw, ps.set k (t, (ur, num, uf)))], ?_, ?_, ?_, by rw [List.length_append, List.length_singleton]; omega⟩, fun b o h n => ?_⟩
    · rw [upd_same, ← List.append_assoc, grefs_add]
    · rw [← List.append_assoc]; exact gFo
    · intro x hx
      rw [← List.append_assoc] at hx
      rcases List.mem_append.mp hx with hx | hx
      · exact hne11 x hx
      · rw [List.mem_singleton.mp hx]; exact nnf.symm
    · rw [upd_ne n]; exact sA23 _ _ (k11 b o h n)
  rintro σ H11 ⟨⟨v8, v9, rfl⟩, ⟨ls, hfo11, hG11, hne11, hll2⟩, k11⟩
  refine ⟨_, rfl, q fo (rs, ps.eraseIdx k) (l2, ps.eraseIdx k ++ [ps[k]]) q2 ls H11 hfo11 hG11 ?_ hq2 fun b o h => k11 _ _ (s10 _ _ (s09 _ _ h)) (ne_of_none h hfoH)⟩
  show triL (ps.eraseIdx k) = (triL ps).eraseIdx k
  unfold triL
  rw [List.eraseIdx_eq_take_drop_succ, List.eraseIdx_eq_take_drop_succ, List.map_append, List.map_take, List.map_drop]
theorem shown_len {E : KE} {n : Int} {L M : List Tri} (h : PapOk E n L) (hl : M.length ≠ L.length) : ¬ Shown E (.int n) (.list (M.map t3D)) := by
  rintro (⟨z, _⟩ | ⟨n', M', z, e, h2⟩)
  · cases z
  · injection e with e
    rw [← t3Ds_inj e] at h2
    have := h.2.2
    have := h2.2.2
    omega
theorem shown_far {E : KE} (hn : (rowsE E).Nodup) {n : Int} {L : List Tri} {k : Nat} {u : Tri} (h : PapOk E n L) (hu : L[k]? = some u) : ¬ Shown E (.int n) (.list ((L.set k (u.1, u.2.1, u.2.2 + 1)).map t3D)) := by
  rintro (⟨z, _⟩ | ⟨n', M', z, e, h2⟩)
  · cases z
  · injection e with e
    rw [← t3Ds_inj e] at h2
    have hk := (List.getElem?_eq_some_iff.mp hu).1
    have h3 := h2.2.1 k (u.1, u.2.1, u.2.2 + 1) (by rw [List.getElem?_set_self hk])
    obtain ⟨_, _, _, z1, y1, hz1, hy1, e1, _⟩ := h3
    obtain ⟨_, _, _, z2, y2, hz2, hy2, e2, _⟩ := h.2.1 k u hu
    rw [key_one hn hz1 hz2, key_one hn hy1 hy2] at e1
    simp only at e1
    omega
def spRight (K : PySem.W.Frag) : Sp := fun vs H Q _ => ∃ (a r : Addr) (hs : HeadL) (ps : PL) (n : Int), vs = [.ref a, .int n, .ref r] ∧ SqL K H a (hrefs hs) ∧ AtH H hs ∧ hs.length ≤ 16 ∧ KeyOk hs ∧ Rise hs ∧ H r = some (.lst (prefs ps)) ∧ AtP H ps ∧ PapOk (keyed hs) n (triL ps) ∧ ∀ H', Same H H' → Q (.bl true) H'
theorem ok_right (T : Tops K mg) (f_shows_next : Df P w K mg base 4 "shows_next" ["heads", "n", "thing"] (spShow K)) (f_l_shown : Df P w K mg base 3 "_law_shown" ["_law_heads_here", "_law_n", "_law_thing"] (spShow K)) (f_l_spoilt : Df P w K mg base 1 "_law_spoilt" ["_law_heads_here", "_law_paper", "_law_at"] (spSpoilt K)) : Df P w K mg base 5 "_law_right" ["_law_heads_here", "_law_n", "_law_paper"] (spRight K) := by
  refine T.t_l_right.df sc_l_right (fun vs H Q E h => ?_) (fun cdv f A outer s H vs Q E hr h => ?_)
  · obtain ⟨a, r, hs, ps, n, rfl, _⟩ := h
    rfl
  obtain ⟨a, r, hs, ps, n, rfl, hS, hA, hn, hk, hri, hr0, hP, hok, q⟩ := h
  refine ⟨_, (@pss_cons _ _ _ _ _ (@ps_if _ _ _ _ _ _ _ _ (@pt_cmpR _ _ _ _ _ _ _ _ op_notB (@pe_df _ _ _ _ _ _ _ _ _ _ _ f_shows_next hr (@pa_cons _ _ _ _ _ (@pv _ 0 _ _ (by rfl) (Or.inl rfl) (by decide) (by decide)) (@pa_cons _ _ _ _ _ (@pv _ 1 _ _ (by rfl) (Or.inl rfl) (by decide) (by decide)) (@pa_cons _ _ _ _ _ (@pv _ 2 _ _ (by rfl) (Or.inl rfl) (by decide) (by decide)) (@pa_nil _) (by rfl)) (by rfl)) (by rfl)) (by first | decide | exact Nat.le_refl _ | omega) (by rfl) (by decide) (by rfl) (by rfl)) (@pe_bl _ _ _ _) (nomark _)) (@pss_one _ _ _ (@ps_ret _ _ _ _ (@pe_bl _ _ _ _))) (@pss_nil _)) (@pss_cons _ _ _ _ _ (@ps_for _ _ _ _ _ _ _ _ PassesOwn.never rfl (@pi_range1 _ _ _ _ _ _ rfl T.b.n_range (@pa_cons _ _ _ _ _ (@pe_callB _ _ _ _ _ _ _ _ _ (lenQ K) (by rfl) T.b.n_len PySem.boot_len (@pa_cons _ _ _ _ _ (@pv _ 2 _ _ (by rfl) (Or.inl rfl) (by decide) (by decide)) (@pa_nil _) (by rfl)) (by decide) (by decide) (by rfl) (by rfl)) (@pa_nil _) (by rfl)) (by rfl)) (@pg_name _ _ 3 _ sc_l_right.nd rfl (Or.inl rfl) (by first | exact .inl rfl | exact .inr rfl)) (@pss_cons _ _ _ _ _ (@ps_set _ _ 4 _ _ _ _ sc_l_right.nd rfl (Or.inl rfl) (@pe_df _ _ _ _ _ _ _ _ _ _ _ f_l_spoilt hr (@pa_cons _ _ _ _ _ (@pv _ 0 _ _ (by rfl) (Or.inl rfl) (by decide) (by decide)) (@pa_cons _ _ _ _ _ (@pv _ 2 _ _ (by rfl) (Or.inl rfl) (by decide) (by decide)) (@pa_cons _ _ _ _ _ (@pv _ 3 _ _ (by rfl) (Or.inl rfl) (by decide) (by decide)) (@pa_nil _) (by rfl)) (by rfl)) (by rfl)) (by first | decide | exact Nat.le_refl _ | omega) (by rfl) (by decide) (by rfl) (by rfl)) (by rfl) (by first | exact .inl rfl | exact .inr rfl)) (@pss_cons _ _ _ _ _ (@ps_if _ _ _ _ _ _ _ _ (@PW.pt _ _ _ (@pw_or _ _ _ _ _ _ _ (@pt_cmpR _ _ _ _ _ _ _ _ op_notB (@pe_df _ _ _ _ _ _ _ _ _ _ _ f_shows_next hr (@pa_cons _ _ _ _ _ (@pv _ 0 _ _ (by rfl) (Or.inl rfl) (by decide) (by decide)) (@pa_cons _ _ _ _ _ (@pv _ 1 _ _ (by rfl) (Or.inl rfl) (by decide) (by decide)) (@pa_cons _ _ _ _ _ (@pe_ix _ _ _ _ _ _ _ (ixL K) (@pv _ 4 _ _ (by rfl) (Or.inl rfl) (by decide) (by decide)) (@pe_int _ _ _ _) (fun _ _ => rfl)) (@pa_nil _) (by rfl)) (by rfl)) (by rfl)) (by first | decide | exact Nat.le_refl _ | omega) (by rfl) (by decide) (by rfl) (by rfl)) (@pe_bl _ _ _ _) (nomark _)) (@pw_or1 _ _ _ _ (@pt_cmpR _ _ _ _ _ _ _ _ op_notB (@pe_df _ _ _ _ _ _ _ _ _ _ _ f_shows_next hr (@pa_cons _ _ _ _ _ (@pv _ 0 _ _ (by rfl) (Or.inl rfl) (by decide) (by decide)) (@pa_cons _ _ _ _ _ (@pv _ 1 _ _ (by rfl) (Or.inl rfl) (by decide) (by decide)) (@pa_cons _ _ _ _ _ (@pe_ix _ _ _ _ _ _ _ (ixL K) (@pv _ 4 _ _ (by rfl) (Or.inl rfl) (by decide) (by decide)) (@pe_int _ _ _ _) (fun _ _ => rfl)) (@pa_nil _) (by rfl)) (by rfl)) (by rfl)) (by first | decide | exact Nat.le_refl _ | omega) (by rfl) (by decide) (by rfl) (by rfl)) (@pe_bl _ _ _ _) (nomark _))))) (@pss_one _ _ _ (@ps_ret _ _ _ _ (@pe_bl _ _ _ _))) (@pss_nil _)) (@pss_one _ _ _ (@ps_for _ _ _ _ _ _ _ _ PassesOwn.never rfl (@iL _ K _ _ _ (@pv _ 4 _ _ (by rfl) (Or.inl rfl) (by decide) (by decide)) (by rfl)) (@pg_name _ _ 5 _ sc_l_right.nd rfl (Or.inl rfl) (by first | exact .inl rfl | exact .inr rfl)) (@pss_cons _ _ _ _ _ (@ps_set _ _ 6 _ _ _ _ sc_l_right.nd rfl (Or.inl rfl) (@pe_df _ _ _ _ _ _ _ _ _ _ _ f_shows_next hr (@pa_cons _ _ _ _ _ (@pv _ 0 _ _ (by rfl) (Or.inl rfl) (by decide) (by decide)) (@pa_cons _ _ _ _ _ (@pv _ 1 _ _ (by rfl) (Or.inl rfl) (by decide) (by decide)) (@pa_cons _ _ _ _ _ (@pv _ 5 _ _ (by rfl) (Or.inl rfl) (by decide) (by decide)) (@pa_nil _) (by rfl)) (by rfl)) (by rfl)) (by first | decide | exact Nat.le_refl _ | omega) (by rfl) (by decide) (by rfl) (by rfl)) (by rfl) (by first | exact .inl rfl | exact .inr rfl)) (@pss_one _ _ _ (@ps_if _ _ _ _ _ _ _ _ (@PW.pt _ _ _ (@pw_or _ _ _ _ _ _ _ (@pt_not _ _ _ _ (@pt_val _ _ _ (@pe_callB _ _ _ _ _ _ _ _ _ (isiQ K) (by rfl) T.b.n_isinstance boot_isinstance (@pa_cons _ _ _ _ _ (@pv _ 6 _ _ (by rfl) (Or.inl rfl) (by decide) (by decide)) (@pa_cons _ _ _ _ _ (@pe_ty _ _ _ _ T.b.n_bool boot_bool (by rfl) (by decide) (by decide)) (@pa_nil _) (by rfl)) (by rfl)) (by decide) (by decide) (by rfl) (by rfl)) (by intro _; rfl))) (@pw_or1 _ _ _ _ (@pt_cmpR _ _ _ _ _ _ _ _ op_ne (@pv _ 6 _ _ (by rfl) (Or.inl rfl) (by decide) (by decide)) (@pe_df _ _ _ _ _ _ _ _ _ _ _ f_l_shown hr (@pa_cons _ _ _ _ _ (@pv _ 0 _ _ (by rfl) (Or.inl rfl) (by decide) (by decide)) (@pa_cons _ _ _ _ _ (@pv _ 1 _ _ (by rfl) (Or.inl rfl) (by decide) (by decide)) (@pa_cons _ _ _ _ _ (@pv _ 5 _ _ (by rfl) (Or.inl rfl) (by decide) (by decide)) (@pa_nil _) (by rfl)) (by rfl)) (by rfl)) (by first | decide | exact Nat.le_refl _ | omega) (by rfl) (by decide) (by rfl) (by rfl)) (nomark _))))) (@pss_one _ _ _ (@ps_ret _ _ _ _ (@pe_bl _ _ _ _))) (@pss_nil _)))) (by intro _; rfl))))) (by intro _; rfl)) (@pss_one _ _ _ (@ps_ret _ _ _ _ (@pe_bl _ _ _ _))))), ?_⟩
  have hnd : (rowsE (keyed hs)).Nodup := keyed_rows hs hri
  have hkl := keyed_len hs
  have hlen := hok.2.2
  have htl : (triL ps).length = ps.length := List.length_map _
  have hpl2 : (prefs ps).length = ps.length := by unfold prefs; rw [List.length_map]
  have hdl : ∀ (qs : PL), qs.length ≤ 20 → ∀ ds, PyData.list ((triL qs).map t3D) = .list ds → ds.length ≤ 40 := fun qs hq ds e => by
    injection e with e
    rw [← e, List.length_map]
    unfold triL
    rw [List.length_map]; omega
  have hyes : Shown (keyed hs) (.int n) (.list ((triL ps).map t3D)) := .inr ⟨_, _, rfl, rfl, hok⟩
  refine ⟨_, rfl, _, rfl, _, rfl, a, hs, .int n, .ref r, _, true, rfl, hS, hA, hn, hk, hri, .inr ⟨_, rfl⟩, .lst hr0 (dh_prefs ps hP), shaped_t3 _, hdl ps (by omega), ⟨fun _ => hyes, fun _ => rfl⟩, fun H1 s1 => ⟨_, _, rfl, rfl, _, rfl, iteNS rfl ?_⟩⟩
  have hr1 := s1 _ _ hr0
  refine ⟨_, rfl, r, _, rfl, .inl (SqL.of hr1), _, rfl, by rw [hpl2]; omega, by rw [hpl2]; omega, ?_⟩
  refine for_range (fun i σ H2 => (∃ v3 v4 v5 v6 : Option V, σ = [some (.ref a), some (.int n), some (.ref r), v3, v4, v5, v6]) ∧ Same H1 H2) ⟨⟨_, _, _, _, rfl⟩, Same.refl _⟩ ?_ ?_
  · rintro i σ H2 hi ⟨⟨v3, v4, v5, v6, rfl⟩, s2⟩
    rw [hpl2] at hi
    have hil : i < ps.length := by omega
    have s02 := s1.trans s2
    have hr2 := s02 _ _ hr0
    have hui : (triL ps)[i]? = some ((triL ps)[i]'(by omega)) := List.getElem?_eq_getElem _
    generalize (triL ps)[i]'(by omega) = u at hui
    obtain ⟨z, hz⟩ := rows_at (hok.2.1 i u hui).1
    refine ⟨_, rfl, _, rfl, _, rfl, a, r, hs, ps, i, z, u, congrArg (fun z => [V.ref a, V.ref r, V.int z]) (Int.zero_add _), s02.seq hS, hA.mono s02, hn, hk, hri, hr2, hP.mono s02, by omega, hui, hz, fun rr q0 q1 q2 ls H3 hrr hG e0 e2 s3 => ?_⟩
    have s03 := s02.trans s3
    have g0 := hG q0 (by simp)
    have g2 := hG q2 (by simp)
    have n0 : ¬ Shown (keyed hs) (.int n) (.list ((triL q0.2).map t3D)) := by
      rw [e0]
      refine shown_len hok ?_
      rw [List.length_eraseIdx, if_pos (by omega)]
      omega
    have n2 : ¬ Shown (keyed hs) (.int n) (.list ((triL q2.2).map t3D)) := by
      rw [e2]
      exact shown_far hnd hok hui
    refine ⟨_, rfl, _, rfl, _, rfl, rr, _, _, _, rfl, rfl, SqL.of hrr, atI_nat (j := 0) rfl, a, hs, .int n, .ref q0.1, _, false, rfl, s03.seq hS, hA.mono s03, hn, hk, hri, .inr ⟨_, rfl⟩, .lst g0.1 (dh_prefs q0.2 g0.2.1), shaped_t3 _, hdl _ g0.2.2, ⟨fun z => (Bool.false_ne_true z).elim, fun z => absurd z n0⟩, fun H4 s4 => ⟨_, _, rfl, rfl, _, rfl, iteNS rfl ?_⟩⟩
    have s04 := s03.trans s4
    refine ⟨_, rfl, _, rfl, _, rfl, rr, _, _, _, rfl, rfl, SqL.of (s4 _ _ hrr), atI_nat (j := 2) rfl, a, hs, .int n, .ref q2.1, _, false, rfl, s04.seq hS, hA.mono s04, hn, hk, hri, .inr ⟨_, rfl⟩, .lst (s4 _ _ g2.1) (dh_prefs q2.2 (g2.2.1.mono s4)), shaped_t3 _, hdl _ g2.2.2, ⟨fun z => (Bool.false_ne_true z).elim, fun z => absurd z n2⟩, fun H5 s5 => ⟨_, _, rfl, rfl, _, rfl, iteNS rfl ?_⟩⟩
    have s35 := s4.trans s5
    have s05 := s04.trans s5
    refine ⟨_, rfl, rr, rfl, ⟨_, SqL.of (s35 _ _ hrr)⟩, ?_⟩
    refine for_list (K := K) (a := rr) (xs := grefs (q0 :: q1 :: q2 :: ls)) (fun m σ H6 => (∃ v5 v6 : Option V, σ = [some (.ref a), some (.int n), some (.ref r), some (.int (0 + (i : Int))), some (.ref rr), v5, v6]) ∧ Same H5 H6) ⟨⟨_, _, rfl⟩, Same.refl _⟩ (fun _ _ _ _ ⟨_, s6⟩ => SqL.of ((s35.trans s6) _ _ hrr)) ?_ ?_
    · rintro m x σ H6 hx ⟨⟨v5, v6, rfl⟩, s6⟩
      unfold grefs at hx
      rw [List.getElem?_map] at hx
      cases hq : (q0 :: q1 :: q2 :: ls)[m]? with
      | none => rw [hq] at hx; cases hx
      | some qq =>
      rw [hq] at hx
      cases hx
      have gq := (hG.mono (s35.trans s6)) qq (List.mem_of_getElem? hq)
      obtain ⟨bb, hbb⟩ := ShowB.ex (keyed hs) (.int n) (.list ((triL qq.2).map t3D))
      have s06 := s05.trans s6
      refine ⟨_, rfl, _, rfl, _, rfl, a, hs, .int n, .ref qq.1, _, bb, rfl, s06.seq hS, hA.mono s06, hn, hk, hri, .inr ⟨_, rfl⟩, .lst gq.1 (dh_prefs qq.2 gq.2.1), shaped_t3 _, hdl _ gq.2.2, hbb, fun H7 s7 => ?_⟩
      refine ⟨_, rfl, _, "bool", _, _, rfl, .bl bb, k_bl_bl K, _, rfl, iteF ?_⟩
      have s07 := s06.trans s7
      exact ⟨_, rfl, _, rfl, _, rfl, _, rfl, a, hs, .int n, .ref qq.1, _, bb, rfl, s07.seq hS, hA.mono s07, hn, hk, hri, .inr ⟨_, rfl⟩, .lst (s7 _ _ gq.1) (dh_prefs qq.2 (gq.2.1.mono s7)), shaped_t3 _, hdl _ gq.2.2, hbb, fun H8 s8 => ⟨rfl, _, rfl, iteNS rfl ⟨⟨_, _, rfl⟩, s6.trans (s7.trans s8)⟩⟩⟩
    · rintro σ H6 ⟨⟨v5, v6, rfl⟩, s6⟩
      exact ⟨⟨_, _, _, _, rfl⟩, s2.trans ((s3.trans s35).trans s6)⟩
  · rintro σ H2 ⟨⟨v3, v4, v5, v6, rfl⟩, s2⟩
    exact q H2 (s1.trans s2)
/-LEVEL 8-/
--SPLIT
theorem ok_law {f : Addr} {fd : FuncData} (F : Fun K "law" "law" st_law f fd) (T : Tops K mg) : FnOk P w K mg base CX0 8 f fd ["_law_script"] (spLaw K) := by
  have f_l_mix : Df P w K mg base 1 "_law_mix" ["_law_cell", "_law_k"] spMix := ok_mix T
  have f_l_left : Df P w K mg base 1 "_law_left" ["_law_script", "_law_k"] (spLeft K) := ok_left T
  have f_l_pick : Df P w K mg base 2 "_law_pick" ["_law_left_here", "_law_many"] spPick := ok_pick T f_l_mix
  have f_l_key : Df P w K mg base 3 "_law_key" ["_law_left_here", "_law_stems_here"] spKey := ok_key T f_l_pick
  have f_l_heads : Df P w K mg base 4 "_law_heads" ["_law_left_here"] spHeads := ok_heads T f_l_pick (ok_stems T f_l_pick) f_l_key
  have f_l_least := ok_least (P := P) (w := w) (base := base) T
  have f_paper_of : Df P w K mg base 3 "paper_of" ["heads"] (spPaper2 K) := ok_paper2 T (ok_next T) (ok_alike T (ok_alike_from T))
  have f_l_shown := ok_lshown (P := P) (w := w) (base := base) T (ok_lentry T (ok_lnumH T)) (ok_lost T)
  have f_shows_next := ok_shows (P := P) (w := w) (base := base) T (ok_numH T) (ok_trip T (ok_numH T)) (ok_greater T (ok_liken_from T (ok_alike_from T) (ok_order T)))
  have f_l_papers := ok_papers (P := P) (w := w) (base := base) T (ok_l_alike T) f_paper_of
  have f_l_right := ok_right (P := P) (w := w) (base := base) T f_shows_next f_l_shown (ok_spoilt T)
  refine F.ok sc_law (fun vs H Q E h => ?_) (fun cdv A outer s H vs Q E hr h => ?_)
  · obtain ⟨a, ns, rfl, _⟩ := h
    rfl
  obtain ⟨a, ns, rfl, hS, h63, q⟩ := h
  refine ⟨_, (@pss_cons _ _ _ _ _ (@ps_for _ _ _ _ _ _ _ _ PassesOwn.never rfl (@pi_range1 _ _ _ _ _ _ rfl T.b.n_range (@pa_cons _ _ _ _ _ (@pe_callB _ _ _ _ _ _ _ _ _ (call_max2 rfl) (by rfl) T.b.n_max boot_max (@pa_cons _ _ _ _ _ (@pe_int _ _ _ _) (@pa_cons _ _ _ _ _ (@pe_callB _ _ _ _ _ _ _ _ _ (call_min2 rfl) (by rfl) T.b.n_min boot_min (@pa_cons _ _ _ _ _ (@pe_callB _ _ _ _ _ _ _ _ _ (lenQ K) (by rfl) T.b.n_len PySem.boot_len (@pa_cons _ _ _ _ _ (@pv _ 0 _ _ (by rfl) (Or.inl rfl) (by decide) (by decide)) (@pa_nil _) (by rfl)) (by decide) (by decide) (by rfl) (by rfl)) (@pa_cons _ _ _ _ _ (@pe_int _ _ _ _) (@pa_nil _) (by rfl)) (by rfl)) (by decide) (by decide) (by rfl) (by rfl)) (@pa_nil _) (by rfl)) (by rfl)) (by decide) (by decide) (by rfl) (by rfl)) (@pa_nil _) (by rfl)) (by rfl)) (@pg_name _ _ 1 _ sc_law.nd rfl (Or.inl rfl) (by first | exact .inl rfl | exact .inr rfl)) (@pss_cons _ _ _ _ _ (@ps_set _ _ 2 _ _ _ _ sc_law.nd rfl (Or.inl rfl) (@pe_df _ _ _ _ _ _ _ _ _ _ _ f_l_left hr (@pa_cons _ _ _ _ _ (@pv _ 0 _ _ (by rfl) (Or.inl rfl) (by decide) (by decide)) (@pa_cons _ _ _ _ _ (@pv _ 1 _ _ (by rfl) (Or.inl rfl) (by decide) (by decide)) (@pa_nil _) (by rfl)) (by rfl)) (by first | decide | exact Nat.le_refl _ | omega) (by rfl) (by decide) (by rfl) (by rfl)) (by rfl) (by first | exact .inl rfl | exact .inr rfl)) (@pss_cons _ _ _ _ _ (@ps_set _ _ 3 _ _ _ _ sc_law.nd rfl (Or.inl rfl) (@pe_df _ _ _ _ _ _ _ _ _ _ _ f_l_heads hr (@pa_cons _ _ _ _ _ (@pv _ 2 _ _ (by rfl) (Or.inl rfl) (by decide) (by decide)) (@pa_nil _) (by rfl)) (by first | decide | exact Nat.le_refl _ | omega) (by rfl) (by decide) (by rfl) (by rfl)) (by rfl) (by first | exact .inl rfl | exact .inr rfl)) (@pss_cons _ _ _ _ _ (@ps_if _ _ _ _ _ _ _ _ (@pt_cmpR _ _ _ _ _ _ _ _ op_lt (@pe_callB _ _ _ _ _ _ _ _ _ (lenQ K) (by rfl) T.b.n_len PySem.boot_len (@pa_cons _ _ _ _ _ (@pe_comp _ _ _ _ _ _ _ _ _ _ _ _ _ _ cs_16 rfl rfl rfl (@iL _ K _ _ _ (@pv _ 3 _ _ (by rfl) (Or.inl rfl) (by decide) (by decide)) (by rfl)) (fun _ _ _ _ => (@gT _ K _ _ _ 2 _ (@pgs_cons _ _ _ _ _ (@cg _ _ _ _ _ _ _ _ _ _ _ 7 cs_16 rfl (by decide +kernel) (by rfl)) (@pgs_cons _ _ _ _ _ (@cg _ _ _ _ _ _ _ _ _ _ _ 8 cs_16 rfl (by decide +kernel) (by rfl)) (@pgs_nil _) (by rfl)) (by rfl)) (by rfl) (by rfl) (by rfl) (by rfl))) (fun _ _ _ _ => (@pts_one _ _ _ (@pt_cmpR _ _ _ _ _ _ _ _ op_notN (@cw _ _ _ _ _ _ _ _ _ _ _ 8 cs_16 rfl (by decide +kernel) (by rfl) (by decide) (by decide)) (@pe_non _ _ _) (nomark _)))) (fun _ _ _ _ => (@cw _ _ _ _ _ _ _ _ _ _ _ 8 cs_16 rfl (by decide +kernel) (by rfl) (by decide) (by decide))) (by intro _; rfl)) (@pa_nil _) (by rfl)) (by decide) (by decide) (by rfl) (by rfl)) (@pe_int _ _ _ _) (nomark _)) (@pss_one _ _ _ (@ps_set _ _ 3 _ _ _ _ sc_law.nd rfl (Or.inl rfl) (@pe_lst _ _ _ _ (@pa_cons _ _ _ _ _ (@pe_tup _ _ _ _ _ (@pa_cons _ _ _ _ _ (@pe_int _ _ _ _) (@pa_cons _ _ _ _ _ (@pe_str _ _ _ _) (@pa_nil _) (by rfl)) (by rfl))) (@pa_cons _ _ _ _ _ (@pe_tup _ _ _ _ _ (@pa_cons _ _ _ _ _ (@pe_int _ _ _ _) (@pa_cons _ _ _ _ _ (@pe_df _ _ _ _ _ _ _ _ _ _ _ f_l_key hr (@pa_cons _ _ _ _ _ (@pv _ 2 _ _ (by rfl) (Or.inl rfl) (by decide) (by decide)) (@pa_cons _ _ _ _ _ (@pe_lst _ _ _ _ (@pa_cons _ _ _ _ _ (@pe_str _ _ _ _) (@pa_cons _ _ _ _ _ (@pe_str _ _ _ _) (@pa_cons _ _ _ _ _ (@pe_str _ _ _ _) (@pa_nil _) (by rfl)) (by rfl)) (by rfl))) (@pa_nil _) (by rfl)) (by rfl)) (by first | decide | exact Nat.le_refl _ | omega) (by rfl) (by decide) (by rfl) (by rfl)) (@pa_nil _) (by rfl)) (by rfl))) (@pa_cons _ _ _ _ _ (@pe_tup _ _ _ _ _ (@pa_cons _ _ _ _ _ (@pe_int _ _ _ _) (@pa_cons _ _ _ _ _ (@pe_non _ _ _) (@pa_nil _) (by rfl)) (by rfl))) (@pa_cons _ _ _ _ _ (@pe_tup _ _ _ _ _ (@pa_cons _ _ _ _ _ (@pe_int _ _ _ _) (@pa_cons _ _ _ _ _ (@pe_str _ _ _ _) (@pa_nil _) (by rfl)) (by rfl))) (@pa_nil _) (by rfl)) (by rfl)) (by rfl)) (by rfl))) (by rfl) (by first | exact .inl rfl | exact .inr rfl))) (@pss_nil _)) (@pss_cons _ _ _ _ _ (@ps_set _ _ 4 _ _ _ _ sc_law.nd rfl (Or.inr rfl) (@pe_df _ _ _ _ _ _ _ _ _ _ _ f_l_least hr (@pa_cons _ _ _ _ _ (@pv _ 3 _ _ (by rfl) (Or.inl rfl) (by decide) (by decide)) (@pa_nil _) (by rfl)) (by first | decide | exact Nat.le_refl _ | omega) (by rfl) (by decide) (by rfl) (by rfl)) (by rfl) (by first | exact .inl rfl | exact .inr rfl)) (@pss_one _ _ _ (@ps_for _ _ _ _ _ _ _ _ PassesOwn.never rfl (@iL _ K _ _ _ (@pe_df _ _ _ _ _ _ _ _ _ _ _ f_l_papers hr (@pa_cons _ _ _ _ _ (@pv _ 3 _ _ (by rfl) (Or.inl rfl) (by decide) (by decide)) (@pa_nil _) (by rfl)) (by first | decide | exact Nat.le_refl _ | omega) (by rfl) (by decide) (by rfl) (by rfl)) (by rfl)) (@pg_name _ _ 5 _ sc_law.nd rfl (Or.inl rfl) (by first | exact .inl rfl | exact .inr rfl)) (@pss_cons _ _ _ _ _ (@ps_if _ _ _ _ _ _ _ _ (@pt_not _ _ _ _ (@pt_val _ _ _ (@pe_df _ _ _ _ _ _ _ _ _ _ _ f_l_right hr (@pa_cons _ _ _ _ _ (@pv _ 3 _ _ (by rfl) (Or.inl rfl) (by decide) (by decide)) (@pa_cons _ _ _ _ _ (@pv _ 4 _ _ (by rfl) (Or.inr (Or.inl rfl)) (by decide) (by decide)) (@pa_cons _ _ _ _ _ (@pv _ 5 _ _ (by rfl) (Or.inl rfl) (by decide) (by decide)) (@pa_nil _) (by rfl)) (by rfl)) (by rfl)) (by first | decide | exact Nat.le_refl _ | omega) (by rfl) (by decide) (by rfl) (by rfl)) (by intro _; rfl))) (@pss_one _ _ _ (@ps_ret _ _ _ _ (@pe_bl _ _ _ _))) (@pss_nil _)) (@pss_one _ _ _ (@ps_for _ _ _ _ _ _ _ _ PassesOwn.never rfl (@iL _ K _ _ _ (@pe_comp _ _ _ _ _ _ _ _ _ _ _ _ _ _ cs_17 rfl rfl rfl (@iL _ K _ _ _ (@pv _ 3 _ _ (by rfl) (Or.inl rfl) (by decide) (by decide)) (by rfl)) (fun _ _ _ _ => (@gT _ K _ _ _ 2 _ (@pgs_cons _ _ _ _ _ (@cg _ _ _ _ _ _ _ _ _ _ _ 7 cs_17 rfl (by decide +kernel) (by rfl)) (@pgs_cons _ _ _ _ _ (@cg _ _ _ _ _ _ _ _ _ _ _ 8 cs_17 rfl (by decide +kernel) (by rfl)) (@pgs_nil _) (by rfl)) (by rfl)) (by rfl) (by rfl) (by rfl) (by rfl))) (fun _ _ _ _ => (@pts_one _ _ _ (@pt_cmpR _ _ _ _ _ _ _ _ op_ne (@cw _ _ _ _ _ _ _ _ _ _ _ 7 cs_17 rfl (by decide +kernel) (by rfl) (by decide) (by decide)) (@cv _ _ _ _ _ _ _ _ _ _ _ 4 cs_17 rfl (by decide +kernel) (by rfl) (by decide) (by decide)) (nomark _)))) (fun _ _ _ _ => (@cw _ _ _ _ _ _ _ _ _ _ _ 7 cs_17 rfl (by decide +kernel) (by rfl) (by decide) (by decide))) (by intro _; rfl)) (by rfl)) (@pg_name _ _ 6 _ sc_law.nd rfl (Or.inl rfl) (by first | exact .inl rfl | exact .inr rfl)) (@pss_one _ _ _ (@ps_if _ _ _ _ _ _ _ _ (@pt_cmpR _ _ _ _ _ _ _ _ op_notB (@pe_df _ _ _ _ _ _ _ _ _ _ _ f_shows_next hr (@pa_cons _ _ _ _ _ (@pv _ 3 _ _ (by rfl) (Or.inl rfl) (by decide) (by decide)) (@pa_cons _ _ _ _ _ (@pv _ 6 _ _ (by rfl) (Or.inl rfl) (by decide) (by decide)) (@pa_cons _ _ _ _ _ (@pv _ 5 _ _ (by rfl) (Or.inl rfl) (by decide) (by decide)) (@pa_nil _) (by rfl)) (by rfl)) (by rfl)) (by first | decide | exact Nat.le_refl _ | omega) (by rfl) (by decide) (by rfl) (by rfl)) (@pe_bl _ _ _ _) (nomark _)) (@pss_one _ _ _ (@ps_ret _ _ _ _ (@pe_bl _ _ _ _))) (@pss_nil _))) (by intro _; rfl)))) (by intro _; rfl))))))) (by intro _; rfl)) (@pss_one _ _ _ (@ps_ret _ _ _ _ (@pe_bl _ _ _ _)))), ?_⟩
  refine ⟨_, rfl, a, _, rfl, .inl hS, _, _, rfl, _, _, rfl, _, rfl, ?_, ?_, ?_⟩
  · split <;> split at * <;> omega
  · split <;> split at * <;> omega
  refine for_range (fun i σ H2 => ∃ v1 v2 v3 v4 v5 v6 : Option V, σ = [some (.ref a), v1, v2, v3, v4, v5, v6] ∧ Same H H2) ⟨_, _, _, _, _, _, rfl, Same.refl H⟩ ?_ ?_
  · rintro i σ H2 hi ⟨v1, v2, v3, v4, v5, v6, rfl, s2⟩
    have hi9 : (i : Int) < 100 := by
      have : (i : Int) < ((if (if 3 < (((ns.map V.int).length : Nat) : Int) then (3 : Int) else ((ns.map V.int).length : Nat)) > 2 then (if 3 < (((ns.map V.int).length : Nat) : Int) then (3 : Int) else ((ns.map V.int).length : Nat)) else 2)).toNat := by omega
      split at this <;> split at this <;> omega
    refine ⟨_, rfl, _, rfl, a, ns, _, rfl, s2.seq hS, h63, by omega, by omega, fun p H3 hp L3 s3 => ?_⟩
    have nHp : H p = none := s2.free hp
    have keep : ∀ {H5 H6 : Hp}, Same H H5 → But p H5 H6 → Same H H6 := fun {H5 H6} s b x o e => b x o (s x o e) (ne_of_none e nHp)
    refine ⟨_, rfl, p, 0, rfl, L3, by omega, fun hd hs c5 H5 hd0 hd5 hA5 hn hK hR L5 a1 a2 B5 => ?_⟩
    have s5 := keep (s2.trans s3) B5
    have kl := keyed_len hs
    -- how many keys
    refine ⟨_, rfl, hd, rfl, ⟨_, SqL.of hd5⟩, fun B hB => ?_⟩
    refine comp_lF (K := K) (a := hd) (xs := hrefs hs) (fun m zs σ H13 => (∃ v1 v2 : Option V, σ = [some (.ref a), some (.int (0 + (i : Int))), some (.ref p), some (.ref hd), v4, v5, v6, v1, v2]) ∧ zs.length = (keyed (hs.take m)).length ∧ m ≤ hs.length ∧ H13 B = some (.lst zs) ∧ Same H5 H13) ?_ (fun _ _ _ _ h => SqL.of (h.2.2.2.2 _ _ hd5)) ?_ ?_
    · exact ⟨⟨none, none, rfl⟩, rfl, Nat.zero_le _, upd_same, same_new hB _⟩
    · rintro i x zs σ H13 hx ⟨⟨v1, v2, rfl⟩, hzl, hi', hB13, s13⟩
      obtain ⟨h, hh, rfl⟩ := href_at hx
      have hil : i < hs.length := (List.getElem?_eq_some_iff.mp hh).1
      have hH := hA5.mono s13 h (List.mem_of_getElem? hh)
      have kt := keyed_take hs i hh
      have kl := keyed_len (hs.take i)
      rw [List.length_take] at kl
      refine ⟨h.1, _, rfl, SqT.of hH, rfl, _, _, rfl, _, _, rfl, rfl, ?_⟩
      cases hz : h.2.2 with
      | none =>
        rw [hz, List.append_nil] at kt
        exact ⟨_, rfl, rfl, _, rfl, iteNS rfl ⟨⟨_, _, rfl⟩, by rw [kt]; exact hzl, hil, hB13, s13⟩⟩
      | some z =>
        rw [hz] at kt
        refine ⟨_, rfl, rfl, _, rfl, iteNN (by intro e; cases e) ⟨_, rfl, hB13, small1000 (by omega), ⟨_, _, rfl⟩, ?_, hil, upd_same, fun b o hb => ?_⟩⟩
        · rw [kt, List.length_append, List.length_append, hzl]; rfl
        · rw [upd_ne (ne_of_none hb hB)]; exact s13 b o hb
    rintro zs σ H6 ⟨⟨v1, v2, rfl⟩, hzl, _, hB6, s6⟩
    rw [show (hrefs hs).length = hs.length from List.length_map _, List.take_of_length_le (Nat.le_refl _)] at hzl
    refine ⟨B, _, rfl, .inl (SqL.of hB6), _, _, rfl, rfl, _, rfl, ?_⟩
    by_cases hlt : (zs.length : Int) < 2
    · refine iteD hlt ?_
      have L6 := L5.same s6
      refine ⟨(by show 2 ≤ sizeLine; decide), fun t1 ht1 => ?_⟩
      have z1 := same_new ht1 (.tup [.int 0, .str "ab"])
      have e1 : (upd H6 t1 (.tup [.int 0, .str "ab"])) t1 = some (.tup [.int 0, .str "ab"]) := upd_same
      have L7 := L6.same z1
      generalize upd H6 t1 (.tup [.int 0, .str "ab"]) = H7 at z1 e1 L7 ⊢
      refine ⟨_, rfl, (by show 3 ≤ sizeLine; decide), fun ls hls => ?_⟩
      have z2 := same_new hls (.lst ((["a", "ab", "abc"] : List Str).map V.str))
      have e2 : (upd H7 ls (.lst ((["a", "ab", "abc"] : List Str).map V.str))) ls = some (.lst ((["a", "ab", "abc"] : List Str).map V.str)) := upd_same
      have L8 := L7.same z2
      have hss : ∀ s ∈ (["a", "ab", "abc"] : List Str), s.length ≤ 24 ∧ AZ s := fun s hs => by
        simp only [List.mem_cons, List.not_mem_nil, or_false] at hs
        rcases hs with rfl | rfl | rfl
        · exact ⟨by decide, by unfold AZ cds; decide +kernel⟩
        · exact ⟨by decide, by unfold AZ cds; decide +kernel⟩
        · exact ⟨by decide, by unfold AZ cds; decide +kernel⟩
      refine ⟨p, ls, c5, ["a", "ab", "abc"], rfl, L8, by omega, e2, by decide, by decide, hss, fun key c9 H9 hkey hkaz L9 b1 b2 B9 => ⟨(by show 2 ≤ sizeLine; decide), fun t2 ht2 => ?_⟩⟩
      have B79 : But p H7 H9 := (But.same z2).trans B9
      have z3 := same_new ht2 (.tup [.int 2, .str key])
      have e3 : (upd H9 t2 (.tup [.int 2, .str key])) t2 = some (.tup [.int 2, .str key]) := upd_same
      have e1' := z3 _ _ (B79.tup L7 _ _ e1)
      generalize upd H9 t2 (.tup [.int 2, .str key]) = H10 at z3 e3 e1' ⊢
      refine ⟨(by show 2 ≤ sizeLine; decide), fun t3 ht3 => ?_⟩
      have z4 := same_new ht3 (.tup [.int 3, .non])
      have e4 : (upd H10 t3 (.tup [.int 3, .non])) t3 = some (.tup [.int 3, .non]) := upd_same
      generalize upd H10 t3 (.tup [.int 3, .non]) = H11 at z4 e4 ⊢
      refine ⟨(by show 2 ≤ sizeLine; decide), fun t4 ht4 => ?_⟩
      have z5 := same_new ht4 (.tup [.int 5, .str "ab"])
      have e5 : (upd H11 t4 (.tup [.int 5, .str "ab"])) t4 = some (.tup [.int 5, .str "ab"]) := upd_same
      generalize upd H11 t4 (.tup [.int 5, .str "ab"]) = H12 at z5 e5 ⊢
      refine ⟨(by show 4 ≤ sizeLine; decide), fun hd2 hhd2 => ?_⟩
      have z6 := same_new hhd2 (.lst [.ref t1, .ref t2, .ref t3, .ref t4])
      have hdz : (upd H12 hd2 (.lst [.ref t1, .ref t2, .ref t3, .ref t4])) hd2 = some (.lst (hrefs [(t1, 0, some "ab"), (t2, 2, some key), (t3, 3, none), (t4, 5, some "ab")])) := upd_same
      have y5 := z5.trans z6
      have y4 := z4.trans y5
      have hAz : AtH (upd H12 hd2 (.lst [.ref t1, .ref t2, .ref t3, .ref t4])) [(t1, 0, some "ab"), (t2, 2, some key), (t3, 3, none), (t4, 5, some "ab")] := fun x hx => by
        simp only [List.mem_cons, List.not_mem_nil, or_false] at hx
        rcases hx with rfl | rfl | rfl | rfl
        · exact y4 _ _ e1'
        · exact y4 _ _ e3
        · exact y5 _ _ e4
        · exact z6 _ _ e5
      have sHz : Same H (upd H12 hd2 (.lst [.ref t1, .ref t2, .ref t3, .ref t4])) := (keep ((s5.trans s6).trans z1) B79).trans (z3.trans y4)
      have haz : AZ "ab" := by unfold AZ cds; decide +kernel
      have hKz : KeyOk [(t1, 0, some "ab"), (t2, 2, some key), (t3, 3, none), (t4, 5, some "ab")] := fun x hx z hz => by
        simp only [List.mem_cons, List.not_mem_nil, or_false] at hx
        rcases hx with rfl | rfl | rfl | rfl
        · cases hz; exact ⟨by decide, haz⟩
        · cases hz; exact ⟨hkey, hkaz⟩
        · cases hz
        · cases hz; exact ⟨by decide, haz⟩
      have hRz : Rise [(t1, 0, some "ab"), (t2, 2, some key), (t3, 3, none), (t4, 5, some "ab")] := by
        unfold Rise
        simp
      have hnz : List.length [(t1, (0 : Int), some ("ab" : Str)), (t2, 2, some key), (t3, 3, none), (t4, 5, some "ab")] ≤ 16 := by show 4 ≤ 16; decide
      have hne : keyed [(t1, 0, some "ab"), (t2, 2, some key), (t3, 3, none), (t4, 5, some "ab")] ≠ [] := by
        unfold keyed
        simp
      generalize upd H12 hd2 (.lst [.ref t1, .ref t2, .ref t3, .ref t4]) = H13 at hdz hAz sHz z6 y5 y4 ⊢
      generalize ([(t1, 0, some "ab"), (t2, 2, some key), (t3, 3, none), (t4, 5, some "ab")] : HeadL) = hs2 at hdz hAz hKz hRz hnz hne
      have hnd : (rowsE (keyed hs2)).Nodup := keyed_rows hs2 hRz
      have kl := keyed_len hs2
      refine ⟨_, rfl, hd2, hs2, rfl, SqL.of hdz, hAz, by omega, hKz, fun nv H8 hnv s8 => ?_⟩
      rcases hnv with ⟨z, _⟩ | ⟨e, he, hmin, rfl⟩
      · exact absurd z hne
      have hd8 := s8 _ _ hdz
      have hA8 := hAz.mono s8
      refine ⟨_, rfl, hd2, hs2, e, rfl, SqL.of hd8, hA8, hnz, hKz, hRz, he, hmin, fun rr r1 r2 r3 H9 hrr p1 p2 p3 s9 => ?_⟩
      refine ⟨rr, rfl, ⟨_, SqL.of hrr⟩, ?_⟩
      refine for_list (K := K) (a := rr) (xs := [.ref r1, .ref r2, .ref r3]) (fun m σ H10 => (∃ w5 w6 : Option V, σ = [some (.ref a), some (.int (0 + (i : Int))), some (.ref p), some (.ref hd2), some (.int e.2), w5, w6]) ∧ Same H9 H10) ⟨⟨_, _, rfl⟩, Same.refl _⟩ (fun _ _ _ _ ⟨_, s10⟩ => SqL.of (s10 _ _ hrr)) ?_ ?_
      · rintro m x σ H10 hx ⟨⟨w5, w6, rfl⟩, s10⟩
        obtain ⟨r, rfl, ps, hr9, hP9, hok⟩ : ∃ r, x = .ref r ∧ PapL H9 r (keyed hs2) e.2 := by
          have := List.mem_of_getElem? hx
          simp only [List.mem_cons, List.not_mem_nil, or_false] at this
          rcases this with rfl | rfl | rfl
          · exact ⟨_, rfl, p1⟩
          · exact ⟨_, rfl, p2⟩
          · exact ⟨_, rfl, p3⟩
        have s810 := s9.trans s10
        have hlen := hok.2.2
        have htl : (triL ps).length = ps.length := List.length_map _
        have hdl : ∀ ds, PyData.list ((triL ps).map t3D) = .list ds → ds.length ≤ 40 := fun ds e => by injection e with e; rw [← e, List.length_map]; omega
        refine ⟨_, rfl, _, rfl, _, rfl, hd2, r, hs2, ps, e.2, rfl, SqL.of (s810 _ _ hd8), hA8.mono s810, hnz, hKz, hRz, s10 _ _ hr9, hP9.mono s10, hok, fun H11 s11 => ⟨_, rfl, iteF ?_⟩⟩
        have s811 := s810.trans s11
        have s911 := s10.trans s11
        refine ⟨_, rfl, hd2, rfl, ⟨_, SqL.of (s811 _ _ hd8)⟩, fun B hB => ?_⟩
        refine comp_lF (K := K) (a := hd2) (xs := hrefs hs2) (fun n zs σ H14 => (∃ v1 v2 : Option V, σ = [some (.ref a), some (.int (0 + (i : Int))), some (.ref p), some (.ref hd2), some (.int e.2), some (.ref r), w6, v1, v2]) ∧ (∃ rs : List Int, zs = rs.map V.int ∧ (∀ x ∈ rs, x ≠ e.2) ∧ rs.length ≤ n) ∧ n ≤ hs2.length ∧ H14 B = some (.lst zs) ∧ Same H11 H14) ?_ (fun _ _ _ _ h => SqL.of (h.2.2.2.2 _ _ (s811 _ _ hd8))) ?_ ?_
        · exact ⟨⟨none, none, rfl⟩, ⟨[], rfl, (fun x h => by cases h), Nat.le_refl _⟩, Nat.zero_le _, upd_same, same_new hB _⟩
        · rintro n x zs σ H14 hx ⟨⟨v1, v2, rfl⟩, ⟨rs, rfl, hrs, hrl⟩, hi', hB14, s14⟩
          obtain ⟨h, hh, rfl⟩ := href_at hx
          have hil : n < List.length hs2 := (List.getElem?_eq_some_iff.mp hh).1
          have hH := (hA8.mono s811).mono s14 h (List.mem_of_getElem? hh)
          refine ⟨h.1, _, rfl, SqT.of hH, rfl, _, _, rfl, _, _, rfl, rfl, ?_⟩
          refine ⟨_, rfl, _, rfl, rfl, _, rfl, ?_⟩
          by_cases hrow : V.int h.2.1 = V.int e.2
          · exact iteNS hrow ⟨⟨_, _, rfl⟩, ⟨rs, rfl, hrs, by omega⟩, hil, hB14, s14⟩
          · have hrow' : h.2.1 ≠ e.2 := fun z => hrow (by rw [z])
            refine iteNN hrow ⟨_, rfl, hB14, (by rw [List.length_map]; exact small1000 (by omega)), ⟨_, _, rfl⟩, ⟨rs ++ [h.2.1], by rw [List.map_append]; rfl, fun x hx => ?_, by rw [List.length_append, List.length_singleton]; omega⟩, hil, upd_same, fun b o hb => ?_⟩
            · rcases List.mem_append.mp hx with hx | hx
              · exact hrs x hx
              · rw [List.mem_singleton.mp hx]; exact hrow'
            · rw [upd_ne (ne_of_none hb hB)]; exact s14 b o hb
        rintro zs σ H14 ⟨⟨v1, v2, rfl⟩, ⟨rs, rfl, hrs, hrl⟩, _, hB14, s14⟩
        refine ⟨B, rfl, ⟨_, SqL.of hB14⟩, ?_⟩
        refine for_list (K := K) (a := B) (xs := rs.map V.int) (fun n σ H17 => (∃ w8 : Option V, σ = [some (.ref a), some (.int (0 + (i : Int))), some (.ref p), some (.ref hd2), some (.int e.2), some (.ref r), w8]) ∧ Same H14 H17) ⟨⟨_, rfl⟩, Same.refl _⟩ (fun _ _ _ _ ⟨_, s17⟩ => SqL.of (s17 _ _ hB14)) ?_ ?_
        · rintro n x σ H17 hx ⟨⟨w8, rfl⟩, s17⟩
          obtain ⟨z, hz, rfl⟩ := List.mem_map.mp (List.mem_of_getElem? hx)
          have s817 := (s811.trans s14).trans s17
          have s917 := (s911.trans s14).trans s17
          exact ⟨_, rfl, _, rfl, _, rfl, hd2, hs2, .int z, .ref r, _, false, rfl, SqL.of (s817 _ _ hd8), hA8.mono s817, hnz, hKz, hRz, .inr ⟨_, rfl⟩, .lst (s917 _ _ hr9) (dh_prefs ps (hP9.mono s917)), shaped_t3 _, hdl, ⟨fun z => (Bool.false_ne_true z).elim, fun y => absurd y (shown_other hnd hok (hrs z hz))⟩, fun H18 s18 => ⟨_, _, rfl, rfl, _, rfl, iteNS rfl ⟨⟨_, rfl⟩, s17.trans s18⟩⟩⟩
        · rintro σ H17 ⟨⟨w8, rfl⟩, s17⟩
          exact ⟨⟨_, _, rfl⟩, (s911.trans s14).trans s17⟩
      · rintro σ H10 ⟨⟨w5, w6, rfl⟩, s10⟩
        exact ⟨_, _, _, _, _, _, rfl, ((sHz.trans s8).trans s9).trans s10⟩
    · refine iteDN hlt ?_
      have hdz := s6 _ _ hd5
      have hAz := hA5.mono s6
      have sHz := s5.trans s6
      have hKz := hK
      have hRz := hR
      have hnz := hn
      have hne : keyed hs ≠ [] := fun z => by
        have h0 : (keyed hs).length = 0 := by rw [z]; rfl
        omega
      have hnd : (rowsE (keyed hs)).Nodup := keyed_rows hs hRz
      have kl := keyed_len hs
      refine ⟨_, rfl, hd, hs, rfl, SqL.of hdz, hAz, by omega, hKz, fun nv H8 hnv s8 => ?_⟩
      rcases hnv with ⟨z, _⟩ | ⟨e, he, hmin, rfl⟩
      · exact absurd z hne
      have hd8 := s8 _ _ hdz
      have hA8 := hAz.mono s8
      refine ⟨_, rfl, hd, hs, e, rfl, SqL.of hd8, hA8, hnz, hKz, hRz, he, hmin, fun rr r1 r2 r3 H9 hrr p1 p2 p3 s9 => ?_⟩
      refine ⟨rr, rfl, ⟨_, SqL.of hrr⟩, ?_⟩
      refine for_list (K := K) (a := rr) (xs := [.ref r1, .ref r2, .ref r3]) (fun m σ H10 => (∃ w5 w6 : Option V, σ = [some (.ref a), some (.int (0 + (i : Int))), some (.ref p), some (.ref hd), some (.int e.2), w5, w6]) ∧ Same H9 H10) ⟨⟨_, _, rfl⟩, Same.refl _⟩ (fun _ _ _ _ ⟨_, s10⟩ => SqL.of (s10 _ _ hrr)) ?_ ?_
      · rintro m x σ H10 hx ⟨⟨w5, w6, rfl⟩, s10⟩
        obtain ⟨r, rfl, ps, hr9, hP9, hok⟩ : ∃ r, x = .ref r ∧ PapL H9 r (keyed hs) e.2 := by
          have := List.mem_of_getElem? hx
          simp only [List.mem_cons, List.not_mem_nil, or_false] at this
          rcases this with rfl | rfl | rfl
          · exact ⟨_, rfl, p1⟩
          · exact ⟨_, rfl, p2⟩
          · exact ⟨_, rfl, p3⟩
        have s810 := s9.trans s10
        have hlen := hok.2.2
        have htl : (triL ps).length = ps.length := List.length_map _
        have hdl : ∀ ds, PyData.list ((triL ps).map t3D) = .list ds → ds.length ≤ 40 := fun ds e => by injection e with e; rw [← e, List.length_map]; omega
        refine ⟨_, rfl, _, rfl, _, rfl, hd, r, hs, ps, e.2, rfl, SqL.of (s810 _ _ hd8), hA8.mono s810, hnz, hKz, hRz, s10 _ _ hr9, hP9.mono s10, hok, fun H11 s11 => ⟨_, rfl, iteF ?_⟩⟩
        have s811 := s810.trans s11
        have s911 := s10.trans s11
        refine ⟨_, rfl, hd, rfl, ⟨_, SqL.of (s811 _ _ hd8)⟩, fun B hB => ?_⟩
        refine comp_lF (K := K) (a := hd) (xs := hrefs hs) (fun n zs σ H14 => (∃ v1 v2 : Option V, σ = [some (.ref a), some (.int (0 + (i : Int))), some (.ref p), some (.ref hd), some (.int e.2), some (.ref r), w6, v1, v2]) ∧ (∃ rs : List Int, zs = rs.map V.int ∧ (∀ x ∈ rs, x ≠ e.2) ∧ rs.length ≤ n) ∧ n ≤ hs.length ∧ H14 B = some (.lst zs) ∧ Same H11 H14) ?_ (fun _ _ _ _ h => SqL.of (h.2.2.2.2 _ _ (s811 _ _ hd8))) ?_ ?_
        · exact ⟨⟨none, none, rfl⟩, ⟨[], rfl, (fun x h => by cases h), Nat.le_refl _⟩, Nat.zero_le _, upd_same, same_new hB _⟩
        · rintro n x zs σ H14 hx ⟨⟨v1, v2, rfl⟩, ⟨rs, rfl, hrs, hrl⟩, hi', hB14, s14⟩
          obtain ⟨h, hh, rfl⟩ := href_at hx
          have hil : n < List.length hs := (List.getElem?_eq_some_iff.mp hh).1
          have hH := (hA8.mono s811).mono s14 h (List.mem_of_getElem? hh)
          refine ⟨h.1, _, rfl, SqT.of hH, rfl, _, _, rfl, _, _, rfl, rfl, ?_⟩
          refine ⟨_, rfl, _, rfl, rfl, _, rfl, ?_⟩
          by_cases hrow : V.int h.2.1 = V.int e.2
          · exact iteNS hrow ⟨⟨_, _, rfl⟩, ⟨rs, rfl, hrs, by omega⟩, hil, hB14, s14⟩
          · have hrow' : h.2.1 ≠ e.2 := fun z => hrow (by rw [z])
            refine iteNN hrow ⟨_, rfl, hB14, (by rw [List.length_map]; exact small1000 (by omega)), ⟨_, _, rfl⟩, ⟨rs ++ [h.2.1], by rw [List.map_append]; rfl, fun x hx => ?_, by rw [List.length_append, List.length_singleton]; omega⟩, hil, upd_same, fun b o hb => ?_⟩
            · rcases List.mem_append.mp hx with hx | hx
              · exact hrs x hx
              · rw [List.mem_singleton.mp hx]; exact hrow'
            · rw [upd_ne (ne_of_none hb hB)]; exact s14 b o hb
        rintro zs σ H14 ⟨⟨v1, v2, rfl⟩, ⟨rs, rfl, hrs, hrl⟩, _, hB14, s14⟩
        refine ⟨B, rfl, ⟨_, SqL.of hB14⟩, ?_⟩
        refine for_list (K := K) (a := B) (xs := rs.map V.int) (fun n σ H17 => (∃ w8 : Option V, σ = [some (.ref a), some (.int (0 + (i : Int))), some (.ref p), some (.ref hd), some (.int e.2), some (.ref r), w8]) ∧ Same H14 H17) ⟨⟨_, rfl⟩, Same.refl _⟩ (fun _ _ _ _ ⟨_, s17⟩ => SqL.of (s17 _ _ hB14)) ?_ ?_
        · rintro n x σ H17 hx ⟨⟨w8, rfl⟩, s17⟩
          obtain ⟨z, hz, rfl⟩ := List.mem_map.mp (List.mem_of_getElem? hx)
          have s817 := (s811.trans s14).trans s17
          have s917 := (s911.trans s14).trans s17
          exact ⟨_, rfl, _, rfl, _, rfl, hd, hs, .int z, .ref r, _, false, rfl, SqL.of (s817 _ _ hd8), hA8.mono s817, hnz, hKz, hRz, .inr ⟨_, rfl⟩, .lst (s917 _ _ hr9) (dh_prefs ps (hP9.mono s917)), shaped_t3 _, hdl, ⟨fun z => (Bool.false_ne_true z).elim, fun y => absurd y (shown_other hnd hok (hrs z hz))⟩, fun H18 s18 => ⟨_, _, rfl, rfl, _, rfl, iteNS rfl ⟨⟨_, rfl⟩, s17.trans s18⟩⟩⟩
        · rintro σ H17 ⟨⟨w8, rfl⟩, s17⟩
          exact ⟨⟨_, _, rfl⟩, (s911.trans s14).trans s17⟩
      · rintro σ H10 ⟨⟨w5, w6, rfl⟩, s10⟩
        exact ⟨_, _, _, _, _, _, rfl, ((sHz.trans s8).trans s9).trans s10⟩
  · rintro σ H2 ⟨v1, v2, v3, v4, v5, v6, rfl, s2⟩
    exact q H2
end
theorem top_mk {K : PySem.W.Frag} {h : Heap} {mg : Str → Option Value} {x : Str} {st : Stmt} {ps : List Str} {f : Addr} {od an : Option Addr} {sl : Array (Option Value)} {oc kV dc pm cd ct : Value} (X : K.In h) (G : h.Ns mainGlobals mg)
    (a : PySem.W.nsIn K mainGlobals x = some (some (.ref f))) (l : K.lookup f = some ⟨oc, od, .func (PySem.W.fnOf x x (defArgs st) (defBody st) (defScope st) .none kV dc pm an cd ct), sl⟩) (c : PySem.W.codeIn K cd x = true) (k : PySem.W.keepIn K (.ref f) = true)
    (hb : ∀ (kV doc pm : Value) (an : Option Addr) (cdv ct : Value) (us : List Value), us.length = ps.length → bindArgs (PySem.W.fnOf x x (defArgs st) (defBody st) (defScope st) .none kV doc pm an cdv ct) ⟨us, []⟩ = pure (ps.zip us)) : Top K mg x st ps :=
  ⟨_, _, fun_mk (st := st) l c k, PySem.W.mg_of X G a, (fun_mk (st := st) l c k).binds hb⟩
theorem all_mk {l : PySem.W.OpenLaw} {w : World} {K : PySem.W.Frag} {h : Heap} {mg : Str → Option Value} {fa : Addr} (X : K.In h) (G : h.Ns mainGlobals mg) (hfa : mg "law" = some (.ref fa))
    {f0 : Addr} {od0 an0 : Option Addr} {sl0 : Array (Option Value)} {oc0 kV0 dc0 pm0 cd0 ct0 : Value}
    {f1 : Addr} {od1 an1 : Option Addr} {sl1 : Array (Option Value)} {oc1 kV1 dc1 pm1 cd1 ct1 : Value}
    {f2 : Addr} {od2 an2 : Option Addr} {sl2 : Array (Option Value)} {oc2 kV2 dc2 pm2 cd2 ct2 : Value}
    {f3 : Addr} {od3 an3 : Option Addr} {sl3 : Array (Option Value)} {oc3 kV3 dc3 pm3 cd3 ct3 : Value}
    {f4 : Addr} {od4 an4 : Option Addr} {sl4 : Array (Option Value)} {oc4 kV4 dc4 pm4 cd4 ct4 : Value}
    {f5 : Addr} {od5 an5 : Option Addr} {sl5 : Array (Option Value)} {oc5 kV5 dc5 pm5 cd5 ct5 : Value}
    {f6 : Addr} {od6 an6 : Option Addr} {sl6 : Array (Option Value)} {oc6 kV6 dc6 pm6 cd6 ct6 : Value}
    {f7 : Addr} {od7 an7 : Option Addr} {sl7 : Array (Option Value)} {oc7 kV7 dc7 pm7 cd7 ct7 : Value}
    {f8 : Addr} {od8 an8 : Option Addr} {sl8 : Array (Option Value)} {oc8 kV8 dc8 pm8 cd8 ct8 : Value}
    {f9 : Addr} {od9 an9 : Option Addr} {sl9 : Array (Option Value)} {oc9 kV9 dc9 pm9 cd9 ct9 : Value}
    {f10 : Addr} {od10 an10 : Option Addr} {sl10 : Array (Option Value)} {oc10 kV10 dc10 pm10 cd10 ct10 : Value}
    {f11 : Addr} {od11 an11 : Option Addr} {sl11 : Array (Option Value)} {oc11 kV11 dc11 pm11 cd11 ct11 : Value}
    {f12 : Addr} {od12 an12 : Option Addr} {sl12 : Array (Option Value)} {oc12 kV12 dc12 pm12 cd12 ct12 : Value}
    {f13 : Addr} {od13 an13 : Option Addr} {sl13 : Array (Option Value)} {oc13 kV13 dc13 pm13 cd13 ct13 : Value}
    {f14 : Addr} {od14 an14 : Option Addr} {sl14 : Array (Option Value)} {oc14 kV14 dc14 pm14 cd14 ct14 : Value}
    {f15 : Addr} {od15 an15 : Option Addr} {sl15 : Array (Option Value)} {oc15 kV15 dc15 pm15 cd15 ct15 : Value}
    {f16 : Addr} {od16 an16 : Option Addr} {sl16 : Array (Option Value)} {oc16 kV16 dc16 pm16 cd16 ct16 : Value}
    {f17 : Addr} {od17 an17 : Option Addr} {sl17 : Array (Option Value)} {oc17 kV17 dc17 pm17 cd17 ct17 : Value}
    {f18 : Addr} {od18 an18 : Option Addr} {sl18 : Array (Option Value)} {oc18 kV18 dc18 pm18 cd18 ct18 : Value}
    {f19 : Addr} {od19 an19 : Option Addr} {sl19 : Array (Option Value)} {oc19 kV19 dc19 pm19 cd19 ct19 : Value}
    {f20 : Addr} {od20 an20 : Option Addr} {sl20 : Array (Option Value)} {oc20 kV20 dc20 pm20 cd20 ct20 : Value}
    {f21 : Addr} {od21 an21 : Option Addr} {sl21 : Array (Option Value)} {oc21 kV21 dc21 pm21 cd21 ct21 : Value}
    {f22 : Addr} {od22 an22 : Option Addr} {sl22 : Array (Option Value)} {oc22 kV22 dc22 pm22 cd22 ct22 : Value}
    {f23 : Addr} {od23 an23 : Option Addr} {sl23 : Array (Option Value)} {oc23 kV23 dc23 pm23 cd23 ct23 : Value}
    {f24 : Addr} {od24 an24 : Option Addr} {sl24 : Array (Option Value)} {oc24 kV24 dc24 pm24 cd24 ct24 : Value}
    {f25 : Addr} {od25 an25 : Option Addr} {sl25 : Array (Option Value)} {oc25 kV25 dc25 pm25 cd25 ct25 : Value}
    (a0 : PySem.W.nsIn K mainGlobals "is_number" = some (some (.ref f0))) (l0 : K.lookup f0 = some ⟨oc0, od0, .func (PySem.W.fnOf "is_number" "is_number" (defArgs st_is_number) (defBody st_is_number) (defScope st_is_number) .none kV0 dc0 pm0 an0 cd0 ct0), sl0⟩) (c0 : PySem.W.codeIn K cd0 "is_number" = true) (k0 : PySem.W.keepIn K (.ref f0) = true)
    (a1 : PySem.W.nsIn K mainGlobals "is_triple" = some (some (.ref f1))) (l1 : K.lookup f1 = some ⟨oc1, od1, .func (PySem.W.fnOf "is_triple" "is_triple" (defArgs st_is_triple) (defBody st_is_triple) (defScope st_is_triple) .none kV1 dc1 pm1 an1 cd1 ct1), sl1⟩) (c1 : PySem.W.codeIn K cd1 "is_triple" = true) (k1 : PySem.W.keepIn K (.ref f1) = true)
    (a2 : PySem.W.nsIn K mainGlobals "alike" = some (some (.ref f2))) (l2 : K.lookup f2 = some ⟨oc2, od2, .func (PySem.W.fnOf "alike" "alike" (defArgs st_alike) (defBody st_alike) (defScope st_alike) .none kV2 dc2 pm2 an2 cd2 ct2), sl2⟩) (c2 : PySem.W.codeIn K cd2 "alike" = true) (k2 : PySem.W.keepIn K (.ref f2) = true)
    (a3 : PySem.W.nsIn K mainGlobals "liken_from" = some (some (.ref f3))) (l3 : K.lookup f3 = some ⟨oc3, od3, .func (PySem.W.fnOf "liken_from" "liken_from" (defArgs st_liken_from) (defBody st_liken_from) (defScope st_liken_from) .none kV3 dc3 pm3 an3 cd3 ct3), sl3⟩) (c3 : PySem.W.codeIn K cd3 "liken_from" = true) (k3 : PySem.W.keepIn K (.ref f3) = true)
    (a4 : PySem.W.nsIn K mainGlobals "alike_from" = some (some (.ref f4))) (l4 : K.lookup f4 = some ⟨oc4, od4, .func (PySem.W.fnOf "alike_from" "alike_from" (defArgs st_alike_from) (defBody st_alike_from) (defScope st_alike_from) .none kV4 dc4 pm4 an4 cd4 ct4), sl4⟩) (c4 : PySem.W.codeIn K cd4 "alike_from" = true) (k4 : PySem.W.keepIn K (.ref f4) = true)
    (a5 : PySem.W.nsIn K mainGlobals "order_at" = some (some (.ref f5))) (l5 : K.lookup f5 = some ⟨oc5, od5, .func (PySem.W.fnOf "order_at" "order_at" (defArgs st_order_at) (defBody st_order_at) (defScope st_order_at) .none kV5 dc5 pm5 an5 cd5 ct5), sl5⟩) (c5 : PySem.W.codeIn K cd5 "order_at" = true) (k5 : PySem.W.keepIn K (.ref f5) = true)
    (a6 : PySem.W.nsIn K mainGlobals "shows_next" = some (some (.ref f6))) (l6 : K.lookup f6 = some ⟨oc6, od6, .func (PySem.W.fnOf "shows_next" "shows_next" (defArgs st_shows_next) (defBody st_shows_next) (defScope st_shows_next) .none kV6 dc6 pm6 an6 cd6 ct6), sl6⟩) (c6 : PySem.W.codeIn K cd6 "shows_next" = true) (k6 : PySem.W.keepIn K (.ref f6) = true)
    (a7 : PySem.W.nsIn K mainGlobals "shows_greater" = some (some (.ref f7))) (l7 : K.lookup f7 = some ⟨oc7, od7, .func (PySem.W.fnOf "shows_greater" "shows_greater" (defArgs st_shows_greater) (defBody st_shows_greater) (defScope st_shows_greater) .none kV7 dc7 pm7 an7 cd7 ct7), sl7⟩) (c7 : PySem.W.codeIn K cd7 "shows_greater" = true) (k7 : PySem.W.keepIn K (.ref f7) = true)
    (a8 : PySem.W.nsIn K mainGlobals "next_of" = some (some (.ref f8))) (l8 : K.lookup f8 = some ⟨oc8, od8, .func (PySem.W.fnOf "next_of" "next_of" (defArgs st_next_of) (defBody st_next_of) (defScope st_next_of) .none kV8 dc8 pm8 an8 cd8 ct8), sl8⟩) (c8 : PySem.W.codeIn K cd8 "next_of" = true) (k8 : PySem.W.keepIn K (.ref f8) = true)
    (a9 : PySem.W.nsIn K mainGlobals "paper_of" = some (some (.ref f9))) (l9 : K.lookup f9 = some ⟨oc9, od9, .func (PySem.W.fnOf "paper_of" "paper_of" (defArgs st_paper_of) (defBody st_paper_of) (defScope st_paper_of) .none kV9 dc9 pm9 an9 cd9 ct9), sl9⟩) (c9 : PySem.W.codeIn K cd9 "paper_of" = true) (k9 : PySem.W.keepIn K (.ref f9) = true)
    (a10 : PySem.W.nsIn K mainGlobals "_law_mix" = some (some (.ref f10))) (l10 : K.lookup f10 = some ⟨oc10, od10, .func (PySem.W.fnOf "_law_mix" "_law_mix" (defArgs st_l_mix) (defBody st_l_mix) (defScope st_l_mix) .none kV10 dc10 pm10 an10 cd10 ct10), sl10⟩) (c10 : PySem.W.codeIn K cd10 "_law_mix" = true) (k10 : PySem.W.keepIn K (.ref f10) = true)
    (a11 : PySem.W.nsIn K mainGlobals "_law_left" = some (some (.ref f11))) (l11 : K.lookup f11 = some ⟨oc11, od11, .func (PySem.W.fnOf "_law_left" "_law_left" (defArgs st_l_left) (defBody st_l_left) (defScope st_l_left) .none kV11 dc11 pm11 an11 cd11 ct11), sl11⟩) (c11 : PySem.W.codeIn K cd11 "_law_left" = true) (k11 : PySem.W.keepIn K (.ref f11) = true)
    (a12 : PySem.W.nsIn K mainGlobals "_law_pick" = some (some (.ref f12))) (l12 : K.lookup f12 = some ⟨oc12, od12, .func (PySem.W.fnOf "_law_pick" "_law_pick" (defArgs st_l_pick) (defBody st_l_pick) (defScope st_l_pick) .none kV12 dc12 pm12 an12 cd12 ct12), sl12⟩) (c12 : PySem.W.codeIn K cd12 "_law_pick" = true) (k12 : PySem.W.keepIn K (.ref f12) = true)
    (a13 : PySem.W.nsIn K mainGlobals "_law_stems" = some (some (.ref f13))) (l13 : K.lookup f13 = some ⟨oc13, od13, .func (PySem.W.fnOf "_law_stems" "_law_stems" (defArgs st_l_stems) (defBody st_l_stems) (defScope st_l_stems) .none kV13 dc13 pm13 an13 cd13 ct13), sl13⟩) (c13 : PySem.W.codeIn K cd13 "_law_stems" = true) (k13 : PySem.W.keepIn K (.ref f13) = true)
    (a14 : PySem.W.nsIn K mainGlobals "_law_key" = some (some (.ref f14))) (l14 : K.lookup f14 = some ⟨oc14, od14, .func (PySem.W.fnOf "_law_key" "_law_key" (defArgs st_l_key) (defBody st_l_key) (defScope st_l_key) .none kV14 dc14 pm14 an14 cd14 ct14), sl14⟩) (c14 : PySem.W.codeIn K cd14 "_law_key" = true) (k14 : PySem.W.keepIn K (.ref f14) = true)
    (a15 : PySem.W.nsIn K mainGlobals "_law_alike" = some (some (.ref f15))) (l15 : K.lookup f15 = some ⟨oc15, od15, .func (PySem.W.fnOf "_law_alike" "_law_alike" (defArgs st_l_alike) (defBody st_l_alike) (defScope st_l_alike) .none kV15 dc15 pm15 an15 cd15 ct15), sl15⟩) (c15 : PySem.W.codeIn K cd15 "_law_alike" = true) (k15 : PySem.W.keepIn K (.ref f15) = true)
    (a16 : PySem.W.nsIn K mainGlobals "_law_heads" = some (some (.ref f16))) (l16 : K.lookup f16 = some ⟨oc16, od16, .func (PySem.W.fnOf "_law_heads" "_law_heads" (defArgs st_l_heads) (defBody st_l_heads) (defScope st_l_heads) .none kV16 dc16 pm16 an16 cd16 ct16), sl16⟩) (c16 : PySem.W.codeIn K cd16 "_law_heads" = true) (k16 : PySem.W.keepIn K (.ref f16) = true)
    (a17 : PySem.W.nsIn K mainGlobals "_law_least" = some (some (.ref f17))) (l17 : K.lookup f17 = some ⟨oc17, od17, .func (PySem.W.fnOf "_law_least" "_law_least" (defArgs st_l_least) (defBody st_l_least) (defScope st_l_least) .none kV17 dc17 pm17 an17 cd17 ct17), sl17⟩) (c17 : PySem.W.codeIn K cd17 "_law_least" = true) (k17 : PySem.W.keepIn K (.ref f17) = true)
    (a18 : PySem.W.nsIn K mainGlobals "_law_lost" = some (some (.ref f18))) (l18 : K.lookup f18 = some ⟨oc18, od18, .func (PySem.W.fnOf "_law_lost" "_law_lost" (defArgs st_l_lost) (defBody st_l_lost) (defScope st_l_lost) .none kV18 dc18 pm18 an18 cd18 ct18), sl18⟩) (c18 : PySem.W.codeIn K cd18 "_law_lost" = true) (k18 : PySem.W.keepIn K (.ref f18) = true)
    (a19 : PySem.W.nsIn K mainGlobals "_law_is_number" = some (some (.ref f19))) (l19 : K.lookup f19 = some ⟨oc19, od19, .func (PySem.W.fnOf "_law_is_number" "_law_is_number" (defArgs st_l_is_number) (defBody st_l_is_number) (defScope st_l_is_number) .none kV19 dc19 pm19 an19 cd19 ct19), sl19⟩) (c19 : PySem.W.codeIn K cd19 "_law_is_number" = true) (k19 : PySem.W.keepIn K (.ref f19) = true)
    (a20 : PySem.W.nsIn K mainGlobals "_law_is_entry" = some (some (.ref f20))) (l20 : K.lookup f20 = some ⟨oc20, od20, .func (PySem.W.fnOf "_law_is_entry" "_law_is_entry" (defArgs st_l_is_entry) (defBody st_l_is_entry) (defScope st_l_is_entry) .none kV20 dc20 pm20 an20 cd20 ct20), sl20⟩) (c20 : PySem.W.codeIn K cd20 "_law_is_entry" = true) (k20 : PySem.W.keepIn K (.ref f20) = true)
    (a21 : PySem.W.nsIn K mainGlobals "_law_shown" = some (some (.ref f21))) (l21 : K.lookup f21 = some ⟨oc21, od21, .func (PySem.W.fnOf "_law_shown" "_law_shown" (defArgs st_l_shown) (defBody st_l_shown) (defScope st_l_shown) .none kV21 dc21 pm21 an21 cd21 ct21), sl21⟩) (c21 : PySem.W.codeIn K cd21 "_law_shown" = true) (k21 : PySem.W.keepIn K (.ref f21) = true)
    (a22 : PySem.W.nsIn K mainGlobals "_law_papers" = some (some (.ref f22))) (l22 : K.lookup f22 = some ⟨oc22, od22, .func (PySem.W.fnOf "_law_papers" "_law_papers" (defArgs st_l_papers) (defBody st_l_papers) (defScope st_l_papers) .none kV22 dc22 pm22 an22 cd22 ct22), sl22⟩) (c22 : PySem.W.codeIn K cd22 "_law_papers" = true) (k22 : PySem.W.keepIn K (.ref f22) = true)
    (a23 : PySem.W.nsIn K mainGlobals "_law_spoilt" = some (some (.ref f23))) (l23 : K.lookup f23 = some ⟨oc23, od23, .func (PySem.W.fnOf "_law_spoilt" "_law_spoilt" (defArgs st_l_spoilt) (defBody st_l_spoilt) (defScope st_l_spoilt) .none kV23 dc23 pm23 an23 cd23 ct23), sl23⟩) (c23 : PySem.W.codeIn K cd23 "_law_spoilt" = true) (k23 : PySem.W.keepIn K (.ref f23) = true)
    (a24 : PySem.W.nsIn K mainGlobals "_law_right" = some (some (.ref f24))) (l24 : K.lookup f24 = some ⟨oc24, od24, .func (PySem.W.fnOf "_law_right" "_law_right" (defArgs st_l_right) (defBody st_l_right) (defScope st_l_right) .none kV24 dc24 pm24 an24 cd24 ct24), sl24⟩) (c24 : PySem.W.codeIn K cd24 "_law_right" = true) (k24 : PySem.W.keepIn K (.ref f24) = true)
    (a25 : PySem.W.nsIn K mainGlobals "law" = some (some (.ref f25))) (l25 : K.lookup f25 = some ⟨oc25, od25, .func (PySem.W.fnOf "law" "law" (defArgs st_law) (defBody st_law) (defScope st_law) .none kV25 dc25 pm25 an25 cd25 ct25), sl25⟩) (c25 : PySem.W.codeIn K cd25 "law" = true) (k25 : PySem.W.keepIn K (.ref f25) = true)
    (z0 : PySem.W.nsIn K mainGlobals "abs" = some none) (z1 : PySem.W.nsIn K mainGlobals "all" = some none) (z2 : PySem.W.nsIn K mainGlobals "bool" = some none) (z3 : PySem.W.nsIn K mainGlobals "dict" = some none) (z4 : PySem.W.nsIn K mainGlobals "enumerate" = some none) (z5 : PySem.W.nsIn K mainGlobals "int" = some none) (z6 : PySem.W.nsIn K mainGlobals "isinstance" = some none) (z7 : PySem.W.nsIn K mainGlobals "len" = some none) (z8 : PySem.W.nsIn K mainGlobals "list" = some none) (z9 : PySem.W.nsIn K mainGlobals "max" = some none) (z10 : PySem.W.nsIn K mainGlobals "min" = some none) (z11 : PySem.W.nsIn K mainGlobals "range" = some none) (z12 : PySem.W.nsIn K mainGlobals "sorted" = some none) (z13 : PySem.W.nsIn K mainGlobals "tuple" = some none) (z14 : PySem.W.nsIn K mainGlobals "zip" = some none) :
    ∃ fd : FuncData, (∀ (s : Shared) (v : Value), BindsTo s fd ⟨[v], []⟩ [("_law_script", v)]) ∧ ∀ base : Heap, K.In base → base.Ns mainGlobals mg → FnOk l.prog w K mg base CX0 8 fa fd ["_law_script"] (spLaw K) := by
  have e := hfa.symm.trans (PySem.W.mg_of X G a25)
  cases e
  have T : Tops K mg := ⟨⟨PySem.W.mg_none_of X G z0, PySem.W.mg_none_of X G z1, PySem.W.mg_none_of X G z2, PySem.W.mg_none_of X G z3, PySem.W.mg_none_of X G z4, PySem.W.mg_none_of X G z5, PySem.W.mg_none_of X G z6, PySem.W.mg_none_of X G z7, PySem.W.mg_none_of X G z8, PySem.W.mg_none_of X G z9, PySem.W.mg_none_of X G z10, PySem.W.mg_none_of X G z11, PySem.W.mg_none_of X G z12, PySem.W.mg_none_of X G z13, PySem.W.mg_none_of X G z14⟩, top_mk X G a0 l0 c0 k0 fun _ _ _ _ _ _ us hl => match us, hl with | [_], _ => rfl, top_mk X G a1 l1 c1 k1 fun _ _ _ _ _ _ us hl => match us, hl with | [_], _ => rfl, top_mk X G a2 l2 c2 k2 fun _ _ _ _ _ _ us hl => match us, hl with | [_, _], _ => rfl, top_mk X G a3 l3 c3 k3 fun _ _ _ _ _ _ us hl => match us, hl with | [_, _, _], _ => rfl, top_mk X G a4 l4 c4 k4 fun _ _ _ _ _ _ us hl => match us, hl with | [_, _, _], _ => rfl, top_mk X G a5 l5 c5 k5 fun _ _ _ _ _ _ us hl => match us, hl with | [_, _, _], _ => rfl, top_mk X G a6 l6 c6 k6 fun _ _ _ _ _ _ us hl => match us, hl with | [_, _, _], _ => rfl, top_mk X G a7 l7 c7 k7 fun _ _ _ _ _ _ us hl => match us, hl with | [_, _, _], _ => rfl, top_mk X G a8 l8 c8 k8 fun _ _ _ _ _ _ us hl => match us, hl with | [_], _ => rfl, top_mk X G a9 l9 c9 k9 fun _ _ _ _ _ _ us hl => match us, hl with | [_], _ => rfl, top_mk X G a10 l10 c10 k10 fun _ _ _ _ _ _ us hl => match us, hl with | [_, _], _ => rfl, top_mk X G a11 l11 c11 k11 fun _ _ _ _ _ _ us hl => match us, hl with | [_, _], _ => rfl, top_mk X G a12 l12 c12 k12 fun _ _ _ _ _ _ us hl => match us, hl with | [_, _], _ => rfl, top_mk X G a13 l13 c13 k13 fun _ _ _ _ _ _ us hl => match us, hl with | [_], _ => rfl, top_mk X G a14 l14 c14 k14 fun _ _ _ _ _ _ us hl => match us, hl with | [_, _], _ => rfl, top_mk X G a15 l15 c15 k15 fun _ _ _ _ _ _ us hl => match us, hl with | [_, _], _ => rfl, top_mk X G a16 l16 c16 k16 fun _ _ _ _ _ _ us hl => match us, hl with | [_], _ => rfl, top_mk X G a17 l17 c17 k17 fun _ _ _ _ _ _ us hl => match us, hl with | [_], _ => rfl, top_mk X G a18 l18 c18 k18 fun _ _ _ _ _ _ us hl => match us, hl with | [_, _, _, _], _ => rfl, top_mk X G a19 l19 c19 k19 fun _ _ _ _ _ _ us hl => match us, hl with | [_], _ => rfl, top_mk X G a20 l20 c20 k20 fun _ _ _ _ _ _ us hl => match us, hl with | [_], _ => rfl, top_mk X G a21 l21 c21 k21 fun _ _ _ _ _ _ us hl => match us, hl with | [_, _, _], _ => rfl, top_mk X G a22 l22 c22 k22 fun _ _ _ _ _ _ us hl => match us, hl with | [_], _ => rfl, top_mk X G a23 l23 c23 k23 fun _ _ _ _ _ _ us hl => match us, hl with | [_, _, _], _ => rfl, top_mk X G a24 l24 c24 k24 fun _ _ _ _ _ _ us hl => match us, hl with | [_, _, _], _ => rfl⟩
  exact ⟨PySem.W.fnOf "law" "law" (defArgs st_law) (defBody st_law) (defScope st_law) .none kV25 dc25 pm25 an25 cd25 ct25, fun s v => .of_eq rfl, fun base _ _ => ok_law (fun_mk (st := st_law) l25 c25 k25) T⟩
theorem walk {l : PySem.W.OpenLaw} {q : Program} {loose : List Str} {XP : (Str → Option Value) → Heap → Prop} {YP : World → Heap → Prop} {d : DefRec} {K : Params → PySem.W.Frag} (hn : l.most = some 63) (hdf : d.params.defaults = [])
    (hY : ∀ (w : World) (h : Heap), YP w h → (K w.params).In h)
    (F : ∀ (w : World) (mg : Str → Option Value) (fa : Addr) (h : Heap), (K w.params).In h → h.Ns mainGlobals mg → mg d.name = some (.ref fa) →
      ∃ fd : FuncData, (∀ (s : Shared) (u : Value), BindsTo s fd ⟨[u], []⟩ [("_law_script", u)]) ∧ ∀ base : Heap, (K w.params).In base → base.Ns mainGlobals mg → FnOk l.prog w (K w.params) mg base CX0 8 fa fd ["_law_script"] (spLaw (K w.params))) :
    PySem.W.WalkO q loose XP YP l.row.toRowW d [] (fun f vs => PySem.call f vs) :=
  L2.walk_of (n := 63) (k := 8) (x := "_law_script") (CX := fun _ => CX0) (sp := fun w => spLaw (K w.params)) hn (by decide) hdf ⟨rfl, by decide, by decide, rfl⟩ hY F (fun _ _ a ns hl _ hS => ⟨a, ns, rfl, hS, hl, fun _ => rfl⟩) fun _ _ _ _ _ z => z
end My
open PySem PySem.W PyProof.Rows
set_option maxRecDepth 100000 in
set_option maxHeartbeats 0 in
theorem PySem.Challenge.cw_mergetree_k65_whole_papers_spoilt_at_eac_holds : PySem.Challenge.rw_mergetree_k65_whole_papers_spoilt_at_eac.Holds := by
  w_on; o_law; k_head; (case hw => w_witness2)
  k_fill
  refine My.walk (l := PySem.Challenge.rw_mergetree_k65_whole_papers_spoilt_at_eac) rfl rfl (fun w h Y => PySem.W.kIn_of Y) ?F
  case F =>
    intro w mg fa h KX G hmg
    refine' My.all_mk KX G hmg ?a0 ?l0 ?c0 ?k0 ?a1 ?l1 ?c1 ?k1 ?a2 ?l2 ?c2 ?k2 ?a3 ?l3 ?c3 ?k3 ?a4 ?l4 ?c4 ?k4 ?a5 ?l5 ?c5 ?k5 ?a6 ?l6 ?c6 ?k6 ?a7 ?l7 ?c7 ?k7 ?a8 ?l8 ?c8 ?k8 ?a9 ?l9 ?c9 ?k9 ?a10 ?l10 ?c10 ?k10 ?a11 ?l11 ?c11 ?k11 ?a12 ?l12 ?c12 ?k12 ?a13 ?l13 ?c13 ?k13 ?a14 ?l14 ?c14 ?k14 ?a15 ?l15 ?c15 ?k15 ?a16 ?l16 ?c16 ?k16 ?a17 ?l17 ?c17 ?k17 ?a18 ?l18 ?c18 ?k18 ?a19 ?l19 ?c19 ?k19 ?a20 ?l20 ?c20 ?k20 ?a21 ?l21 ?c21 ?k21 ?a22 ?l22 ?c22 ?k22 ?a23 ?l23 ?c23 ?k23 ?a24 ?l24 ?c24 ?k24 ?a25 ?l25 ?c25 ?k25 ?z0 ?z1 ?z2 ?z3 ?z4 ?z5 ?z6 ?z7 ?z8 ?z9 ?z10 ?z11 ?z12 ?z13 ?z14
    (case a0 => k_is); (case l0 => k_is); (case c0 => k_is); (case k0 => k_is)
    (case a1 => k_is); (case l1 => k_is); (case c1 => k_is); (case k1 => k_is)
    (case a2 => k_is); (case l2 => k_is); (case c2 => k_is); (case k2 => k_is)
    (case a3 => k_is); (case l3 => k_is); (case c3 => k_is); (case k3 => k_is)
    (case a4 => k_is); (case l4 => k_is); (case c4 => k_is); (case k4 => k_is)
    (case a5 => k_is); (case l5 => k_is); (case c5 => k_is); (case k5 => k_is)
    (case a6 => k_is); (case l6 => k_is); (case c6 => k_is); (case k6 => k_is)
    (case a7 => k_is); (case l7 => k_is); (case c7 => k_is); (case k7 => k_is)
    (case a8 => k_is); (case l8 => k_is); (case c8 => k_is); (case k8 => k_is)
    (case a9 => k_is); (case l9 => k_is); (case c9 => k_is); (case k9 => k_is)
    (case a10 => k_is); (case l10 => k_is); (case c10 => k_is); (case k10 => k_is)
    (case a11 => k_is); (case l11 => k_is); (case c11 => k_is); (case k11 => k_is)
    (case a12 => k_is); (case l12 => k_is); (case c12 => k_is); (case k12 => k_is)
    (case a13 => k_is); (case l13 => k_is); (case c13 => k_is); (case k13 => k_is)
    (case a14 => k_is); (case l14 => k_is); (case c14 => k_is); (case k14 => k_is)
    (case a15 => k_is); (case l15 => k_is); (case c15 => k_is); (case k15 => k_is)
    (case a16 => k_is); (case l16 => k_is); (case c16 => k_is); (case k16 => k_is)
    (case a17 => k_is); (case l17 => k_is); (case c17 => k_is); (case k17 => k_is)
    (case a18 => k_is); (case l18 => k_is); (case c18 => k_is); (case k18 => k_is)
    (case a19 => k_is); (case l19 => k_is); (case c19 => k_is); (case k19 => k_is)
    (case a20 => k_is); (case l20 => k_is); (case c20 => k_is); (case k20 => k_is)
    (case a21 => k_is); (case l21 => k_is); (case c21 => k_is); (case k21 => k_is)
    (case a22 => k_is); (case l22 => k_is); (case c22 => k_is); (case k22 => k_is)
    (case a23 => k_is); (case l23 => k_is); (case c23 => k_is); (case k23 => k_is)
    (case a24 => k_is); (case l24 => k_is); (case c24 => k_is); (case k24 => k_is)
    (case a25 => k_is); (case l25 => k_is); (case c25 => k_is); (case k25 => k_is)
    (case z0 => k_is)
    (case z1 => k_is)
    (case z2 => k_is)
    (case z3 => k_is)
    (case z4 => k_is)
    (case z5 => k_is)
    (case z6 => k_is)
    (case z7 => k_is)
    (case z8 => k_is)
    (case z9 => k_is)
    (case z10 => k_is)
    (case z11 => k_is)
    (case z12 => k_is)
    (case z13 => k_is)
    (case z14 => k_is)

-- axioms: PySem.Challenge.cw_mergetree_k65_whole_papers_spoilt_at_eac_holds
